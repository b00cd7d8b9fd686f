/- Texts that the proof needs, one behind the other. -/
import Derived.Test.YtlmgmdnmghgkbaaGreatDoorMac
import Derived.BigQuiet
import Derived.Deep.RegionHeld3
import Derived.Deep.AppendLies
import Derived.Test.YtlmgmdnmghgkbaaGreatDoorMab
import Derived.WalkMore
import Derived.Shelf.Pu.Clone
import Derived.RegionTactic
import Derived.ChangeAlike
/- The text that a writer has. -/
namespace Go.Proofs.YtlmgmdnmghgkbaaGreatDoor.L6
open Go.ChangeShapes Go.WideShapes Go.ChangeAt Go.RowKit

def Txt (B r c : Nat) (a : Option Addr) (cap : Nat) (l : List Nat) (w w' : World) : Prop := Below w.heap.size w w' ∧ Own B w' (.slice a l.length cap) l ∧ w'.cell? ⟨r, 0, none⟩ = some (.int .i64 (c : Int)) ∧ w'.cell? ⟨r, 1, none⟩ = some (.slice a l.length cap)
theorem Txt.then {B r c : Nat} {a : Option Addr} {cap : Nat} {l : List Nat} {w w1 w2 : World} (h : Txt B r c a cap l w w1) (hb : Below w1.heap.size w1 w2) : Txt B r c a cap l w w2 :=
  ⟨below_then h.1 hb, h.2.1.below hb, cell_keep h.2.2.1 hb, cell_keep h.2.2.2 hb⟩
theorem one_conv (w : World) (m : Int) : (convert 68 9 (.slice (some ⟨w.heap.size, 0, none⟩) 1 1)).run Tryz.prog (w.alloc (.cells #[.int .u8 m] 5)) = .ok (.string (strOfNums [m])) (w.alloc (.cells #[.int .u8 m] 5)) :=
  run_convert_bytes_arg _ 68 5 Tryz.underlying68 Tryz.underlying5 w.heap.size 0 1 1 [m] (by simp) (fun i hi => by
    obtain rfl : i = 0 := by simp at hi; omega
    simp) 9 Tryz.underlying9
theorem one_conv_drew (w : World) (m : Int) : (convert 68 9 (.slice (some ⟨w.heap.size, 0, none⟩) 1 1)).run Tryz.prog (w.alloc (.cells #[.int .u8 m] 5)).drew = .ok (.string (strOfNums [m])) (w.alloc (.cells #[.int .u8 m] 5)).drew := one_conv w.drew m
theorem conv_kept1 {w w2 : World} {m : Int} (hb : Below ((w.alloc (.cells #[.int .u8 m] 5)).drew).heap.size (w.alloc (.cells #[.int .u8 m] 5)).drew w2) :
    (convert 68 9 (.slice (some ⟨w.heap.size, 0, none⟩) 1 1)).run Tryz.prog w2 = .ok (.string (strOfNums [m])) w2 :=
  run_convert_bytes_arg _ 68 5 Tryz.underlying68 Tryz.underlying5 w.heap.size 0 1 1 [m] (by simp) (fun i hi => by
    rw [hb.cell (p := ⟨w.heap.size, 0 + i, none⟩) (by simp)]
    obtain rfl : i = 0 := by simp at hi; omega
    simp) 9 Tryz.underlying9
theorem ret_str {s t : ByteArray} (h : s = t) : Ending.returned (.string s) = .returned (.string t) := by rw [h]

set_option maxRecDepth 10000 in
set_option maxHeartbeats 4000000 in
theorem wtext_any (B r c m : Nat) (l : List Nat) (w : World) (h : Wr B w r c l) (_hm : m < 256) (hc : c ≤ 1000000) (hl : l.length ≤ 900000) :
    Calls Tryz.prog 166 #[.pointer (some ⟨r, 0, none⟩), .int .u8 (m : Int)] w fun e w' => e = .returned (.string (strOf (m :: (Pk.shL c ++ l)))) ∧ Below w.heap.size w w' := by
  obtain ⟨hB, v, hb, ho⟩ := h
  obtain ⟨a, cap, rfl⟩ := ho.shape
  have HX : Txt B r c a cap l w w := ⟨Below.refl _ _, ho, two_cell0 hb, two_cell1 hb⟩
  have hw : IntKind.u64.wrap (c : Int) = (c : Int) := by rw [IntKind.wrap_u64]; omega
  have hF := fun W => short_any (c : Int) W (by omega)
  rw [Int.toNat_natCast] at hF
  have HF := hide hF
  have hcv := one_conv
  have hcv2 := one_conv_drew
  have hz := strOf_size (Pk.shL c)
  have hz2 := Pk.shL_le c
  have HE : Hid (strOfNums [(m : Int)] ++ strOf (Pk.shL c) ++ strOf l = strOf (m :: (Pk.shL c ++ l))) := by
    show _ = _
    have : m :: (Pk.shL c ++ l) = [m] ++ Pk.shL c ++ l := by simp
    rw [this, strOf_append, strOf_append]
    rfl
  have r1 := add_run' (strOfNums [(m : Int)]) (strOf (Pk.shL c)) (by rw [strOfNums_size]; show 1 + _ ≤ _; omega)
  have r2 := add_run' (strOfNums [(m : Int)] ++ strOf (Pk.shL c)) (strOf l) (by rw [ByteArray.size_append, strOfNums_size, strOf_size l]; show 1 + _ + _ ≤ _; omega)
  clear hF hb ho hz hz2
  go_enter Tryz.func166, Tryz.ntmps166
  go_wp2_with fail
  refine wp_region_noPanic ?_
  refine wp_region_held_drew (S := fun w' => Below w.heap.size w w' ∧ Own B w' (.slice a l.length cap) l ∧ w'.cell? ⟨r, 0, none⟩ = some (.int .i64 (c : Int)) ∧ w'.cell? ⟨r, 1, none⟩ = some (.slice a l.length cap)) (by kernel_rfl) (Txt.then HX (below_drew _)) (fun hHeld => ?_)
  refine takeY 0 (some 5) ?_ rfl rfl (by kernel_rfl) (by kernel_rfl) (by kernel_rfl) (fun _ _ _ h => h) (by rfl) ?_ hHeld ?_
  rotate_left
  · intro w hSw; (try dsimp only at hSw); go_simp <;> with_reducible rfl
  simp only [Act.put, List.setIfInBounds_toArray, List.set_cons_zero, List.set_cons_succ]
  refine takeY 3 (some 8) ?_ rfl rfl (by kernel_rfl) (by kernel_rfl) (by kernel_rfl) (fun _ _ _ h => h) (by rfl) ?_ hHeld ?_
  rotate_left
  · intro w hSw; (try dsimp only at hSw); go_simp <;> with_reducible rfl
  simp only [Act.put, List.setIfInBounds_toArray, List.set_cons_zero, List.set_cons_succ]
  refine takeY 4 (some 9) ?_ rfl rfl (by kernel_rfl) (by kernel_rfl) (by kernel_rfl) (fun _ _ _ h => h) (by rfl) ?_ hHeld ?_
  rotate_left
  · intro w hSw; (try dsimp only at hSw); go_simp <;> with_reducible rfl
  simp only [Act.put, List.setIfInBounds_toArray, List.set_cons_zero, List.set_cons_succ]
  refine takeY 5 (some 10) ?_ rfl rfl (by kernel_rfl) (by kernel_rfl) (by kernel_rfl) (fun _ _ _ h => h) (by rfl) ?_ hHeld ?_
  rotate_left
  · intro w hSw; (try dsimp only at hSw); go_simp <;> with_reducible rfl
  simp only [Act.put, List.setIfInBounds_toArray, List.set_cons_zero, List.set_cons_succ]
  refine takeY 6 (some 11) ?_ rfl rfl (by kernel_rfl) (by kernel_rfl) (by kernel_rfl) (fun _ _ _ h => h) (by rfl) ?_ hHeld ?_
  rotate_left
  · intro w hSw; (try dsimp only at hSw); go_simp <;> with_reducible rfl
  simp only [Act.put, List.setIfInBounds_toArray, List.set_cons_zero, List.set_cons_succ]
  refine takeY 7 (some 12) ?_ rfl rfl (by kernel_rfl) (by kernel_rfl) (by kernel_rfl) (fun _ _ _ h => h) (by rfl) ?_ hHeld ?_
  rotate_left
  · intro w hSw; (try dsimp only at hSw); go_simp <;> with_reducible rfl
  simp only [Act.put, List.setIfInBounds_toArray, List.set_cons_zero, List.set_cons_succ]
  refine takeY 10 (some 15) ?_ rfl rfl (by kernel_rfl) (by kernel_rfl) (by kernel_rfl) (fun _ _ _ h => h) (by rfl) ?_ hHeld ?_
  rotate_left
  · intro w hSw; (try dsimp only at hSw); go_simp <;> with_reducible rfl
  simp only [Act.put, List.setIfInBounds_toArray, List.set_cons_zero, List.set_cons_succ]
  refine takeY 11 (some 16) ?_ rfl rfl (by kernel_rfl) (by kernel_rfl) (by kernel_rfl) (fun _ _ _ h => h) (by rfl) ?_ hHeld ?_
  rotate_left
  · intro w hSw; (try dsimp only at hSw); go_simp <;> with_reducible rfl
  simp only [Act.put, List.setIfInBounds_toArray, List.set_cons_zero, List.set_cons_succ]
  refine takeY 12 (some 17) ?_ rfl rfl (by kernel_rfl) (by kernel_rfl) (by kernel_rfl) (fun _ _ _ h => h) (by rfl) ?_ hHeld ?_
  rotate_left
  · intro w hSw; (try dsimp only at hSw); go_simp <;> with_reducible rfl
  simp only [Act.put, List.setIfInBounds_toArray, List.set_cons_zero, List.set_cons_succ]
  refine takeY 13 (some 18) ?_ rfl rfl (by kernel_rfl) (by kernel_rfl) (by kernel_rfl) (fun _ _ _ h => h) (by rfl) ?_ hHeld ?_
  rotate_left
  · intro w hSw; (try dsimp only at hSw); go_simp <;> with_reducible rfl
  simp only [Act.put, List.setIfInBounds_toArray, List.set_cons_zero, List.set_cons_succ]
  refine takeY 14 (some 19) ?_ rfl rfl (by kernel_rfl) (by kernel_rfl) (by kernel_rfl) (fun _ _ _ h => h) (by rfl) ?_ hHeld ?_
  rotate_left
  · intro w hSw; (try dsimp only at hSw); (have hcq := conv_own hSw.2.1); go_simp <;> with_reducible rfl
  simp only [Act.put, List.setIfInBounds_toArray, List.set_cons_zero, List.set_cons_succ]
  refine wpAnyH_ready (rs := [1, 8]) (by kernel_rfl) (by simp) ?_
  refine AllReadyH.cons rfl (fun K hK => ?_) (AllReadyH.cons rfl (fun K hK => ?_) AllReadyH.nil)
  · go_simp
    refine hK.out _ _ (Txt.then hHeld (below_alloc _ _)) (fun hHeld => ?_)
    clear hK K
    try simp only [Act.put, List.setIfInBounds_toArray, List.set_cons_zero, List.set_cons_succ]
    refine wpAnyH_ready (rs := [2, 8]) (by kernel_rfl) (by simp) ?_
    refine AllReadyH.cons rfl (fun K hK => ?_) (AllReadyH.cons rfl (fun K hK => ?_) AllReadyH.nil)
    · go_simp
      refine hK.out _ _ hHeld (fun hHeld => ?_)
      clear hK K
      try simp only [Act.put, List.setIfInBounds_toArray, List.set_cons_zero, List.set_cons_succ]
      refine wpAnyH_ready (rs := [8]) (by kernel_rfl) (by simp) ?_
      refine AllReadyH.cons rfl (fun K hK => ?_) AllReadyH.nil
      go_simp
      refine (unhide HF _).mono ?_
      rintro e w2 ⟨rfl, hb2⟩
      have HX2 := Txt.then hHeld hb2
      refine hK.out _ _ HX2 (fun hHeld => ?_)
      clear hK K
      try simp only [Act.put, List.setIfInBounds_toArray, List.set_cons_zero, List.set_cons_succ]
      refine takeY 9 (some 14) ?_ rfl rfl (by kernel_rfl) (by kernel_rfl) (by kernel_rfl) (fun _ _ _ h => h) (by rfl) ?_ hHeld ?_
      rotate_left
      · intro w hSw; (try dsimp only at hSw); go_simp <;> with_reducible rfl
      simp only [Act.put, List.setIfInBounds_toArray, List.set_cons_zero, List.set_cons_succ]
      refine takeY 15 (some 20) ?_ rfl rfl (by kernel_rfl) (by kernel_rfl) (by kernel_rfl) (fun _ _ _ h => h) (by rfl) ?_ hHeld ?_
      rotate_left
      · intro w hSw; (try dsimp only at hSw); go_simp <;> with_reducible rfl
      simp only [Act.put, List.setIfInBounds_toArray, List.set_cons_zero, List.set_cons_succ]
      refine takeY 16 (some 4) ?_ rfl rfl (by kernel_rfl) (by kernel_rfl) (by kernel_rfl) (fun _ _ _ h => h) (by rfl) ?_ hHeld ?_
      rotate_left
      · intro w hSw; (try dsimp only at hSw); go_simp <;> with_reducible rfl
      simp only [Act.put, List.setIfInBounds_toArray, List.set_cons_zero, List.set_cons_succ]
      refine wpAnyH_done (by kernel_rfl) ?_ _
      refine NoPanic.normal ?_
      have HB := hide hHeld.1
      clear hHeld
      go_wp2
      go_ret
      exact ⟨ret_str (unhide HE), unhide HB⟩
    · go_simp
      refine (unhide HF _).mono ?_
      rintro e w2 ⟨rfl, hb2⟩
      have HX2 := Txt.then hHeld hb2
      have hc2 := conv_kept1 hb2
      refine hK.out _ _ HX2 (fun hHeld => ?_)
      clear hK K
      try simp only [Act.put, List.setIfInBounds_toArray, List.set_cons_zero, List.set_cons_succ]
      refine wpAnyH_ready (rs := [2]) (by kernel_rfl) (by simp) ?_
      refine AllReadyH.cons rfl (fun K hK => ?_) AllReadyH.nil
      go_simp
      refine hK.out _ _ hHeld (fun hHeld => ?_)
      clear hK K
      try simp only [Act.put, List.setIfInBounds_toArray, List.set_cons_zero, List.set_cons_succ]
      refine takeY 9 (some 14) ?_ rfl rfl (by kernel_rfl) (by kernel_rfl) (by kernel_rfl) (fun _ _ _ h => h) (by rfl) ?_ hHeld ?_
      rotate_left
      · intro w hSw; (try dsimp only at hSw); go_simp <;> with_reducible rfl
      simp only [Act.put, List.setIfInBounds_toArray, List.set_cons_zero, List.set_cons_succ]
      refine takeY 15 (some 20) ?_ rfl rfl (by kernel_rfl) (by kernel_rfl) (by kernel_rfl) (fun _ _ _ h => h) (by rfl) ?_ hHeld ?_
      rotate_left
      · intro w hSw; (try dsimp only at hSw); go_simp <;> with_reducible rfl
      simp only [Act.put, List.setIfInBounds_toArray, List.set_cons_zero, List.set_cons_succ]
      refine takeY 16 (some 4) ?_ rfl rfl (by kernel_rfl) (by kernel_rfl) (by kernel_rfl) (fun _ _ _ h => h) (by rfl) ?_ hHeld ?_
      rotate_left
      · intro w hSw; (try dsimp only at hSw); go_simp <;> with_reducible rfl
      simp only [Act.put, List.setIfInBounds_toArray, List.set_cons_zero, List.set_cons_succ]
      refine wpAnyH_done (by kernel_rfl) ?_ _
      refine NoPanic.normal ?_
      have HB := hide hHeld.1
      clear hHeld
      go_wp2
      go_ret
      exact ⟨ret_str (unhide HE), unhide HB⟩
  · go_simp
    refine (unhide HF _).mono ?_
    rintro e w2 ⟨rfl, hb2⟩
    have HX2 := Txt.then hHeld hb2
    refine hK.out _ _ HX2 (fun hHeld => ?_)
    clear hK K
    try simp only [Act.put, List.setIfInBounds_toArray, List.set_cons_zero, List.set_cons_succ]
    refine wpAnyH_ready (rs := [1]) (by kernel_rfl) (by simp) ?_
    refine AllReadyH.cons rfl (fun K hK => ?_) AllReadyH.nil
    go_simp
    refine hK.out _ _ (Txt.then hHeld (below_alloc _ _)) (fun hHeld => ?_)
    clear hK K
    try simp only [Act.put, List.setIfInBounds_toArray, List.set_cons_zero, List.set_cons_succ]
    refine wpAnyH_ready (rs := [2]) (by kernel_rfl) (by simp) ?_
    refine AllReadyH.cons rfl (fun K hK => ?_) AllReadyH.nil
    go_simp
    refine hK.out _ _ hHeld (fun hHeld => ?_)
    clear hK K
    try simp only [Act.put, List.setIfInBounds_toArray, List.set_cons_zero, List.set_cons_succ]
    refine takeY 9 (some 14) ?_ rfl rfl (by kernel_rfl) (by kernel_rfl) (by kernel_rfl) (fun _ _ _ h => h) (by rfl) ?_ hHeld ?_
    rotate_left
    · intro w hSw; (try dsimp only at hSw); go_simp <;> with_reducible rfl
    simp only [Act.put, List.setIfInBounds_toArray, List.set_cons_zero, List.set_cons_succ]
    refine takeY 15 (some 20) ?_ rfl rfl (by kernel_rfl) (by kernel_rfl) (by kernel_rfl) (fun _ _ _ h => h) (by rfl) ?_ hHeld ?_
    rotate_left
    · intro w hSw; (try dsimp only at hSw); go_simp <;> with_reducible rfl
    simp only [Act.put, List.setIfInBounds_toArray, List.set_cons_zero, List.set_cons_succ]
    refine takeY 16 (some 4) ?_ rfl rfl (by kernel_rfl) (by kernel_rfl) (by kernel_rfl) (fun _ _ _ h => h) (by rfl) ?_ hHeld ?_
    rotate_left
    · intro w hSw; (try dsimp only at hSw); go_simp <;> with_reducible rfl
    simp only [Act.put, List.setIfInBounds_toArray, List.set_cons_zero, List.set_cons_succ]
    refine wpAnyH_done (by kernel_rfl) ?_ _
    refine NoPanic.normal ?_
    have HB := hide hHeld.1
    clear hHeld
    go_wp2
    go_ret
    exact ⟨ret_str (unhide HE), unhide HB⟩
end Go.Proofs.YtlmgmdnmghgkbaaGreatDoor.L6

/- Whether a node is right, as the program tells it. -/
namespace Go.Proofs.YtlmgmdnmghgkbaaGreatDoor.L6
open Go.ChangeShapes Go.WideShapes Go.ChangeAt Go.RowKit

theorem len_zero {α : Type} {l : List α} (h : l.length = 0) : l.isEmpty = true := by
  rw [List.isEmpty_iff]
  exact List.length_eq_zero_iff.1 h
theorem len_some {α : Type} {l : List α} (h : 0 < l.length) : l.isEmpty = false := by
  cases l with
  | nil => simp at h
  | cons _ _ => rfl

set_option maxRecDepth 10000 in
set_option maxHeartbeats 2000000 in
theorem isRight_any (n : Nd) (ai ak : Option Addr) (ci ck : Nat) (w : World) (hn : Has w n ai ak) (hil : n.its.length ≤ 1000000) (hkl : n.kds.length ≤ 1000000) :
    Calls Tryz.prog 200 #[.agg #[.bool n.leaf, .slice ai n.its.length ci, .slice ak n.kds.length ck]] w fun e w' => e = .returned (.bool (rightB n)) ∧ Below w.heap.size w w' := by
  obtain ⟨L, its, kds⟩ := n
  simp only at hil hkl
  have hb0 := below_alloc w (.cells #[.bool L, .slice ai its.length ci, .slice ak kds.length ck] 43)
  have HI := hide (areRightI_any ai ci its _ (hn.1.grow hb0) hil)
  have HK := hide (areRightK_any ak ck kds _ (hn.2.grow hb0) hkl)
  have HB := hide hb0
  clear hn hb0
  cases L with
  | true =>
    by_cases h0 : kds.length = 0
    · have e : rightB ⟨true, its, kds⟩ = (!its.isEmpty && rise mayI none its) := by simp [rightB, len_zero h0]
      rw [e]
      have e0 : ((kds.length : Int) == 0) = true := beq_iff_eq.2 (by omega)
      clear e h0
      go_enter Tryz.func200, Tryz.ntmps200
      go_wp2_with (go_at_call 225; refine (unhide HI).mono ?_; rintro x w2 ⟨rfl, hb⟩)
      go_ret
      exact ⟨rfl, below_then (unhide HB) hb⟩
    · have e : rightB ⟨true, its, kds⟩ = false := by simp [rightB, len_some (Nat.pos_of_ne_zero h0)]
      rw [e]
      have e0 : ((kds.length : Int) == 0) = false := beq_eq_false_iff_ne.2 (by omega)
      clear e h0
      go_enter Tryz.func200, Tryz.ntmps200
      go_wp2
      go_ret
      exact ⟨rfl, unhide HB⟩
  | false =>
    by_cases h0 : its.length = 0
    · have e : rightB ⟨false, its, kds⟩ = (!kds.isEmpty && rise mayK none kds) := by simp [rightB, len_zero h0]
      rw [e]
      have e0 : ((its.length : Int) == 0) = true := beq_iff_eq.2 (by omega)
      clear e h0
      go_enter Tryz.func200, Tryz.ntmps200
      go_wp2_with (go_at_call 227; refine (unhide HK).mono ?_; rintro x w2 ⟨rfl, hb⟩)
      go_ret
      exact ⟨rfl, below_then (unhide HB) hb⟩
    · have e : rightB ⟨false, its, kds⟩ = false := by simp [rightB, len_some (Nat.pos_of_ne_zero h0)]
      rw [e]
      have e0 : ((its.length : Int) == 0) = false := beq_eq_false_iff_ne.2 (by omega)
      clear e h0
      go_enter Tryz.func200, Tryz.ntmps200
      go_wp2
      go_ret
      exact ⟨rfl, unhide HB⟩
end Go.Proofs.YtlmgmdnmghgkbaaGreatDoor.L6

/- A node's bytes, its size, its check, as the program has them. -/
namespace Go.Proofs.YtlmgmdnmghgkbaaGreatDoor.L6
open Go.ChangeShapes Go.WideShapes Go.ChangeAt Go.RowKit

theorem rise_all {β : Type} {may : ByteArray × β → Bool} (l : List (ByteArray × β)) (p : Option ByteArray) (h : rise may p l = true) : ∀ x ∈ l, may x = true := by
  induction l generalizing p with
  | nil => intro x hx; cases hx
  | cons y t ih =>
    have : may y = true ∧ rise may (some y.1) t = true := by
      cases p <;> simp [rise] at h
      · exact h
      · exact ⟨h.1.1, h.2⟩
    intro x hx
    rcases List.mem_cons.1 hx with rfl | hx
    · exact this.1
    · exact ih _ this.2 x hx
theorem flat_le {α : Type} {f : α → List Nat} {m : Nat} (l : List α) (h : ∀ x ∈ l, (f x).length ≤ m) : (l.flatMap f).length ≤ l.length * m := by
  induction l with
  | nil => simp
  | cons y t ih =>
    rw [List.flatMap_cons, List.length_append, List.length_cons, Nat.add_mul]
    have h1 := h y List.mem_cons_self
    have h2 := ih (fun x hx => h x (List.mem_cons_of_mem _ hx))
    omega
theorem itL_le {x : It} (h : mayI x = true) : (itL x).length ≤ 452 := by
  simp [mayI] at h
  unfold itL
  rw [List.length_append]
  have h1 := txL_length x.1
  have h2 := txL_length x.2
  omega
theorem kdL_le {x : Kd} (h : mayK x = true) : (kdL x).length ≤ 452 := by
  simp [mayK] at h
  unfold kdL
  rw [List.length_append]
  have h1 := txL_length x.1
  have h2 := Pk.shL_le x.2.toNat
  omega
theorem mayK_place {x : Kd} (h : mayK x = true) : 0 ≤ x.2 ∧ x.2 < 9223372036854775808 := by
  simp [mayK] at h
  omega
theorem right_leaf {its : List It} {kds : List Kd} (h : rightB ⟨true, its, kds⟩ = true) : kds = [] ∧ its ≠ [] ∧ rise mayI none its = true := by
  simp [rightB] at h
  exact ⟨h.1.1, h.1.2, h.2⟩
theorem right_kids {its : List It} {kds : List Kd} (h : rightB ⟨false, its, kds⟩ = true) : its = [] ∧ kds ≠ [] ∧ rise mayK none kds = true := by
  simp [rightB] at h
  exact ⟨h.1.1, h.1.2, h.2⟩
theorem below_step {w w1 w2 w3 : World} {B : Nat} (h : Below w.heap.size w w1) (h1 : Below w1.heap.size w1 w2) (h2 : Below B w2 w3) (hB : w.heap.size ≤ B) : Below w.heap.size w w3 :=
  (below_then h h1).trans (h2.mono hB)
theorem Wr.new (w : World) : Wr w.heap.size (w.alloc (.cells #[.int .i64 0, .slice none 0 0] 277)) w.heap.size 0 [] :=
  ⟨Nat.le_refl _, .slice none 0 0, heap_alloc_new w _, World.ownsRow_nil _ _ _ _⟩
theorem new_low (w : World) (o : Obj) : ∀ k, k < (w.alloc o).heap.size → k ≠ w.heap.size → k < w.heap.size := by
  intro k hk hne
  simp at hk
  omega

set_option maxRecDepth 10000 in
set_option maxHeartbeats 2000000 in
theorem bytesOf_any (n : Nd) (ai ak : Option Addr) (ci ck : Nat) (w : World) (hn : Has w n ai ak) (hr : rightB n = true) (hil : n.its.length ≤ 1100) (hkl : n.kds.length ≤ 1100) :
    Calls Tryz.prog 127 #[.agg #[.bool n.leaf, .slice ai n.its.length ci, .slice ak n.kds.length ck]] w fun e w' => e = .returned (.string (strOf (ndL n))) ∧ Below w.heap.size w w' := by
  obtain ⟨L, its, kds⟩ := n
  simp only at hil hkl
  have hmf : ∀ (fn : Fn) (first cap : Array Value) (w : World), (Instr.makeFunc fn first cap).run Tryz.prog w = .ok (.func fn first cap) w := fun _ _ _ _ => rfl
  have hb0 := below_alloc w (.cells #[.bool L, .slice ai its.length ci, .slice ak kds.length ck] 43)
  have hb1 := below_alloc (w.alloc (.cells #[.bool L, .slice ai its.length ci, .slice ak kds.length ck] 43)) (.cells #[.int .i64 0, .slice none 0 0] 277)
  have hw := Wr.new (w.alloc (.cells #[.bool L, .slice ai its.length ci, .slice ak kds.length ck] 43))
  have hlow := new_low (w.alloc (.cells #[.bool L, .slice ai its.length ci, .slice ak kds.length ck] 43)) (.cells #[.int .i64 0, .slice none 0 0] 277)
  have HB := hide (And.intro hb0 hb1)
  have hwx : (w.alloc (.cells #[.bool L, .slice ai its.length ci, .slice ak kds.length ck] 43)).heap.size = w.heap.size + 1 := by simp
  rw [hwx] at hw hlow
  cases L with
  | true =>
    obtain ⟨rfl, _, hrise⟩ := right_leaf hr
    have hfl : (its.flatMap itL).length ≤ 900000 := Nat.le_trans (flat_le its (fun x hx => itL_le (rise_all _ _ hrise x hx))) (by omega)
    have HC := hide (eachI_any _ _ ai ci its _ hw ((hn.1.grow hb0).grow hb1) hlow (by omega) hfl)
    have HT := hide (fun W (hW : Wr (w.heap.size + 1) W (w.heap.size + 1) its.length (its.flatMap itL)) => wtext_any _ _ its.length 1 _ W hW (by decide) (by omega) hfl)
    have HBX := hide hwx
    clear hn hr hrise hfl hw hlow hb0 hb1 hwx
    go_enter Tryz.func127, Tryz.ntmps127
    go_wp2_with (first
      | (go_at_call 164; refine (unhide HC).mono ?_; rintro x w3 ⟨rfl, hw3, hb3⟩)
      | (go_at_call 166; refine (unhide HT _ hw3).mono ?_; rintro x w4 ⟨rfl, hb4⟩))
    go_ret
    exact ⟨rfl, below_then (below_step (unhide HB).1 (unhide HB).2 hb3 (Nat.le_succ _)) hb4⟩
  | false =>
    obtain ⟨rfl, _, hrise⟩ := right_kids hr
    have hfl : (kds.flatMap kdL).length ≤ 900000 := Nat.le_trans (flat_le kds (fun x hx => kdL_le (rise_all _ _ hrise x hx))) (by omega)
    have HC := hide (eachK_any _ _ ak ck kds _ hw ((hn.2.grow hb0).grow hb1) hlow (fun x hx => mayK_place (rise_all _ _ hrise x hx)) (by omega) hfl)
    have HT := hide (fun W (hW : Wr (w.heap.size + 1) W (w.heap.size + 1) kds.length (kds.flatMap kdL)) => wtext_any _ _ kds.length 2 _ W hW (by decide) (by omega) hfl)
    have HBX := hide hwx
    clear hn hr hrise hfl hw hlow hb0 hb1 hwx
    go_enter Tryz.func127, Tryz.ntmps127
    go_wp2_with (first
      | (go_at_call 167; refine (unhide HC).mono ?_; rintro x w3 ⟨rfl, hw3, hb3⟩)
      | (go_at_call 166; refine (unhide HT _ hw3).mono ?_; rintro x w4 ⟨rfl, hb4⟩))
    go_ret
    exact ⟨rfl, below_then (below_step (unhide HB).1 (unhide HB).2 hb3 (Nat.le_succ _)) hb4⟩
end Go.Proofs.YtlmgmdnmghgkbaaGreatDoor.L6

/- Size, Check, Encode, as the program answers. -/
namespace Go.Proofs.YtlmgmdnmghgkbaaGreatDoor.L6
open Go.ChangeShapes Go.WideShapes Go.ChangeAt Go.RowKit

theorem ndL_pos (n : Nd) : 0 < (ndL n).length := by unfold ndL; split <;> simp
theorem ndL_le (n : Nd) (hr : rightB n = true) (hil : n.its.length ≤ 1100) (hkl : n.kds.length ≤ 1100) : (ndL n).length ≤ 900000 := by
  obtain ⟨L, its, kds⟩ := n
  simp only at hil hkl
  cases L with
  | true =>
    obtain ⟨_, _, h⟩ := right_leaf hr
    have := flat_le its (fun x hx => itL_le (rise_all _ _ h x hx))
    have h2 := Pk.shL_le its.length
    simp [ndL]
    simp at this
    omega
  | false =>
    obtain ⟨_, _, h⟩ := right_kids hr
    have := flat_le kds (fun x hx => kdL_le (rise_all _ _ h x hx))
    have h2 := Pk.shL_le kds.length
    simp [ndL]
    simp at this
    omega

set_option maxRecDepth 10000 in
set_option maxHeartbeats 1000000 in
theorem size_any (n : Nd) (ai ak : Option Addr) (ci ck : Nat) (w : World) (hn : Has w n ai ak) (hil : n.its.length ≤ 1100) (hkl : n.kds.length ≤ 1100) :
    Calls Tryz.prog 163 #[.agg #[.bool n.leaf, .slice ai n.its.length ci, .slice ak n.kds.length ck]] w fun e w' => e = .returned (.int .i64 (sizeN n : Int)) ∧ Below w.heap.size w w' := by
  have hb0 := below_alloc w (.cells #[.bool n.leaf, .slice ai n.its.length ci, .slice ak n.kds.length ck] 43)
  have HB := hide hb0
  have q0 : (w.alloc (.cells #[.bool n.leaf, .slice ai n.its.length ci, .slice ak n.kds.length ck] 43)).cell? ⟨w.heap.size, 0, none⟩ = some (.bool n.leaf) := by simp
  have q1 : (w.alloc (.cells #[.bool n.leaf, .slice ai n.its.length ci, .slice ak n.kds.length ck] 43)).cell? ⟨w.heap.size, 1, none⟩ = some (.slice ai n.its.length ci) := by simp
  have q2 : (w.alloc (.cells #[.bool n.leaf, .slice ai n.its.length ci, .slice ak n.kds.length ck] 43)).cell? ⟨w.heap.size, 2, none⟩ = some (.slice ak n.kds.length ck) := by simp
  have HQ := hide (And.intro q0 (And.intro q1 q2))
  have HR := hide (isRight_any n ai ak ci ck _ (hn.grow hb0) (by omega) (by omega))
  by_cases hr : rightB n = true
  · have e : sizeN n = (strOf (ndL n)).size := by unfold sizeN; rw [if_pos hr, strOf_size]
    rw [e]
    have HN := hide hn
    rw [hr] at HR
    have HC := hide (fun W (hW : Below w.heap.size w W) => bytesOf_any n ai ak ci ck W (hn.grow hW) hr hil hkl)
    clear q0 q1 q2 hr e hn hb0
    go_enter Tryz.func163, Tryz.ntmps163
    go_wp2_with (first
      | (go_at_call 200; refine (unhide HR).mono ?_; rintro x w2 ⟨rfl, hb2⟩; have z0 := cell_keep (unhide HQ).1 hb2; have z1 := cell_keep (unhide HQ).2.1 hb2; have z2 := cell_keep (unhide HQ).2.2 hb2; have HB2 := hide (below_then (unhide HB) hb2); clear hb2)
      | (go_at_call 127; refine (unhide HC _ (unhide HB2)).mono ?_; rintro x w3 ⟨rfl, hb3⟩))
    go_ret
    exact ⟨rfl, below_then (unhide HB2) hb3⟩
  · have hr : rightB n = false := by simpa using hr
    have e : sizeN n = 0 := by unfold sizeN; rw [hr]; rfl
    rw [e]
    rw [hr] at HR
    clear q0 q1 q2 hr e hn hb0
    go_enter Tryz.func163, Tryz.ntmps163
    go_wp2_with (go_at_call 200; refine (unhide HR).mono ?_; rintro x w2 ⟨rfl, hb2⟩)
    go_ret
    exact ⟨rfl, below_then (unhide HB) hb2⟩

theorem sizeN_zero {n : Nd} (h : sizeN n = 0) : checkN n = 60 := by
  unfold sizeN at h
  unfold checkN
  split at h
  · have := ndL_pos n
    omega
  · rename_i hr
    rw [if_neg hr]
theorem sizeN_big {n : Nd} (h : 1007 < sizeN n) : checkN n = 61 := by
  unfold sizeN at h
  unfold checkN
  split at h
  · rename_i hr
    rw [if_pos hr, if_pos h]
  · omega
theorem sizeN_ok {n : Nd} (h0 : sizeN n ≠ 0) (h : ¬ 1007 < sizeN n) : checkN n = 0 := by
  unfold sizeN at h h0
  unfold checkN
  split at h
  · rename_i hr
    rw [if_pos hr, if_neg h]
  · rename_i hr
    rw [if_neg hr] at h0
    omega
theorem checkN_right {n : Nd} (h : checkN n = 0) : rightB n = true := by
  unfold checkN at h
  split at h
  · assumption
  · omega

set_option maxRecDepth 10000 in
set_option maxHeartbeats 1000000 in
theorem check_any (n : Nd) (ai ak : Option Addr) (ci ck : Nat) (w : World) (hn : Has w n ai ak) (hil : n.its.length ≤ 1100) (hkl : n.kds.length ≤ 1100) :
    Calls Tryz.prog 126 #[.agg #[.bool n.leaf, .slice ai n.its.length ci, .slice ak n.kds.length ck]] w fun e w' => e = .returned (.int .i64 (checkN n : Int)) ∧ Below w.heap.size w w' := by
  have hb0 := below_alloc w (.cells #[.bool n.leaf, .slice ai n.its.length ci, .slice ak n.kds.length ck] 43)
  have HB := hide hb0
  have HR := hide (size_any n ai ak ci ck _ (hn.grow hb0) hil hkl)
  clear hb0 hn
  by_cases h0 : sizeN n = 0
  · rw [sizeN_zero h0]
    rw [h0] at HR
    clear h0
    go_enter Tryz.func126, Tryz.ntmps126
    go_wp2_with (go_at_call 163; refine (unhide HR).mono ?_; rintro x w2 ⟨rfl, hb2⟩)
    go_ret
    exact ⟨rfl, below_then (unhide HB) hb2⟩
  · by_cases h1 : 1007 < sizeN n
    · rw [sizeN_big h1]
      generalize sizeN n = k at *
      have f0 : ((k : Int) == 0) = false := beq_eq_false_iff_ne.2 (by omega)
      go_enter Tryz.func126, Tryz.ntmps126
      go_wp2_with (go_at_call 163; refine (unhide HR).mono ?_; rintro x w2 ⟨rfl, hb2⟩)
      go_ret
      exact ⟨rfl, below_then (unhide HB) hb2⟩
    · rw [sizeN_ok h0 h1]
      generalize sizeN n = k at *
      have f0 : ((k : Int) == 0) = false := beq_eq_false_iff_ne.2 (by omega)
      go_enter Tryz.func126, Tryz.ntmps126
      go_wp2_with (go_at_call 163; refine (unhide HR).mono ?_; rintro x w2 ⟨rfl, hb2⟩)
      go_ret
      exact ⟨rfl, below_then (unhide HB) hb2⟩

set_option maxRecDepth 10000 in
set_option maxHeartbeats 1000000 in
theorem encode_any (n : Nd) (ai ak : Option Addr) (ci ck : Nat) (w : World) (hn : Has w n ai ak) (hil : n.its.length ≤ 1100) (hkl : n.kds.length ≤ 1100) :
    Calls Tryz.prog 85 #[.agg #[.bool n.leaf, .slice ai n.its.length ci, .slice ak n.kds.length ck]] w fun e w' => e = .returned (.tuple #[.string (encodeN n).1, .int .i64 ((encodeN n).2 : Int)]) ∧ Below w.heap.size w w' := by
  have hb0 := below_alloc w (.cells #[.bool n.leaf, .slice ai n.its.length ci, .slice ak n.kds.length ck] 43)
  have HB := hide hb0
  have q0 : (w.alloc (.cells #[.bool n.leaf, .slice ai n.its.length ci, .slice ak n.kds.length ck] 43)).cell? ⟨w.heap.size, 0, none⟩ = some (.bool n.leaf) := by simp
  have q1 : (w.alloc (.cells #[.bool n.leaf, .slice ai n.its.length ci, .slice ak n.kds.length ck] 43)).cell? ⟨w.heap.size, 1, none⟩ = some (.slice ai n.its.length ci) := by simp
  have q2 : (w.alloc (.cells #[.bool n.leaf, .slice ai n.its.length ci, .slice ak n.kds.length ck] 43)).cell? ⟨w.heap.size, 2, none⟩ = some (.slice ak n.kds.length ck) := by simp
  have HQ := hide (And.intro q0 (And.intro q1 q2))
  have HR := hide (check_any n ai ak ci ck _ (hn.grow hb0) hil hkl)
  by_cases h0 : checkN n = 0
  · have e : encodeN n = (strOf (ndL n), 0) := by unfold encodeN; rw [if_pos h0]
    rw [e]
    have HC := hide (fun W (hW : Below w.heap.size w W) => bytesOf_any n ai ak ci ck W (hn.grow hW) (checkN_right h0) hil hkl)
    rw [h0] at HR
    clear q0 q1 q2 h0 e hn hb0
    go_enter Tryz.func85, Tryz.ntmps85
    go_wp2_with (first
      | (go_at_call 126; refine (unhide HR).mono ?_; rintro x w2 ⟨rfl, hb2⟩; have z0 := cell_keep (unhide HQ).1 hb2; have z1 := cell_keep (unhide HQ).2.1 hb2; have z2 := cell_keep (unhide HQ).2.2 hb2; have HB2 := hide (below_then (unhide HB) hb2); clear hb2)
      | (go_at_call 127; refine (unhide HC _ (unhide HB2)).mono ?_; rintro x w3 ⟨rfl, hb3⟩))
    go_ret2
    exact ⟨rfl, below_then (unhide HB2) hb3⟩
  · have e : encodeN n = (⟨#[]⟩, checkN n) := by unfold encodeN; rw [if_neg h0]
    rw [e]
    generalize checkN n = k at *
    have f0 : ((k : Int) == 0) = false := beq_eq_false_iff_ne.2 (by omega)
    have f1 : ((k : Int) != 0) = true := bne_iff_ne.2 (by omega)
    clear q0 q1 q2 h0 e hn hb0
    go_enter Tryz.func85, Tryz.ntmps85
    go_wp2_with (go_at_call 126; refine (unhide HR).mono ?_; rintro x w2 ⟨rfl, hb2⟩)
    go_ret2
    exact ⟨rfl, below_then (unhide HB) hb2⟩
end Go.Proofs.YtlmgmdnmghgkbaaGreatDoor.L6

/- Appends to rows of one's own: one element more, what another row has (carried over from layer 3). -/
namespace Go.Proofs.YtlmgmdnmghgkbaaGreatDoor.L6
open Go.ChangeShapes Go.WideShapes Go.ChangeAt Go.RowKit

theorem ownsRow_kind {w : World} {b : Nat} {e : TypeId} {size : Nat} {v : Value} {n : Nat} {xs : List Value} {g : Nat} (h : w.ownsRow b e size v n xs) (hv : v.ownBlock = some g) : ∃ cur, w.heap[g]? = some (.cells cur e (0, 0)) := by
  rcases h.2 with ⟨rfl, _⟩ | ⟨g', cap, cur, rfl, _, hg, _⟩
  · simp [Value.ownBlock] at hv
  · simp [Value.ownBlock] at hv
    subst hv
    exact ⟨cur, hg⟩
theorem ownsRow_same {w w' : World} {b : Nat} {e : TypeId} {size : Nat} {v : Value} {n : Nat} {xs : List Value} (h : w.ownsRow b e size v n xs) (hs : ∀ g, v.ownBlock = some g → w'.heap[g]? = w.heap[g]?) : w'.ownsRow b e size v n xs := by
  refine ⟨h.1, ?_⟩
  rcases h.2 with hn | ⟨g, cap, cur, rfl, hb, hgg, rest⟩
  · exact .inl hn
  · exact .inr ⟨g, cap, cur, rfl, hb, (hs g rfl).trans hgg, rest⟩
theorem ownsRow_form {w : World} {b : Nat} {e : TypeId} {size : Nat} {v : Value} {n : Nat} {xs : List Value} (h : w.ownsRow b e size v n xs) : ∃ a cap, v = .slice a n cap := by
  rcases h.2 with ⟨rfl, rfl⟩ | ⟨g, cap, cur, rfl, _⟩
  · exact ⟨_, _, rfl⟩
  · exact ⟨_, _, rfl⟩
/-- append of one element, which stands in a new block -/
theorem app_gen {ops : Array Oper} {rest : List Oper} {o : Oper} {a : Act} {Q : Exit → Act → World → Prop} {t e : TypeId} {z : Value} {size bytes : Nat} {B : Nat} {wr : World} {v : Value} {n : Nat} {xs news : List Value}
    (ht : Tryz.prog.underlying t = some (.slice e)) (hinfo : (Tryz.prog.info? e).map (fun i => (i.zero, i.size, i.bytes)) = some (some z, size, bytes)) (hzs : z.cells.size = size) (hsz : 0 < size)
    (hwant : Region.wanted o (yielded ops a.tmps) = true) (s x : Operand) (ho : o.op = .call { callee := .builtin .append, args := #[s, x], argTypes := #[t, t] })
    (hs : a.eval s = v) (hx : a.eval x = .slice (some ⟨wr.heap.size, 0, none⟩) 1 1) (hown : wr.ownsRow B e size v n xs) (hB : B ≤ wr.heap.size) (hnl : news.length = size) (h1 : ∀ u ∈ news, u.oneCell' = true) (hlen : (n + 1) * bytes ≤ 140737488355328) (hl2 : n + 1 ≤ 140737488355328)
    (h : ∀ a' cap' w', w'.ownsRow B e size (.slice a' (n + 1) cap') (n + 1) (xs ++ news) → wr.grownBy w' v.ownBlock → ((Value.slice a' (n + 1) cap').ownBlock = v.ownBlock ∨ ∃ g, (Value.slice a' (n + 1) cap').ownBlock = some g ∧ wr.heap.size ≤ g) → wpList Tryz.prog ops Q rest (a.put o.dst (.slice a' (n + 1) cap')) w') :
    wpList Tryz.prog ops Q (o :: rest) a (wr.alloc (.cells news.toArray e)) := by
  obtain ⟨i0, hi, hz0, hz1, hz2⟩ := info_parts hinfo
  obtain ⟨v', w', hr, ho', hg, _, hloc⟩ := run_append_own_at (P := Tryz.prog) (wr.alloc (.cells news.toArray e)) B t o.type e i0 z size bytes ht hi hz0 hz1 hz2 hzs hsz v n xs (World.ownsRow.alloc hown _) ⟨wr.heap.size, 0, none⟩ 1 1 news (by omega)
    (fun j u hj => by
      rw [Go.WideShapes.add_plain, Nat.zero_add]
      simpa using hj)
    h1 (by unfold maxLen; omega) hlen (by simp; omega)
  have hform : ∃ a' cap', v' = .slice a' (n + 1) cap' := by
    rcases ho'.2 with ⟨_, hn⟩ | ⟨g, cap, cur, e, _⟩
    · omega
    · exact ⟨_, _, e⟩
  obtain ⟨a', cap', rfl⟩ := hform
  refine BigFrame.wpList_want hwant fun K hK => ?_
  unfold Oper.wp execOp
  simp only [ho, resolve, invoke, builtin, Sem.run_bind, Sem.run_pure, Result.andThen_ok, List.map_toArray, List.map_cons, List.map_nil, hs, hx, hr]
  refine hK _ _ (h a' cap' w' ho' ⟨hg.os, hg.tape, hg.output, Nat.le_trans (by simp) hg.size, fun k hk hn => (hg.block k (by simp; omega) hn).trans (Below.heap_alloc _ _ _ hk)⟩ ?_)
  rcases hloc with h | h
  · exact .inl h
  · exact .inr ⟨_, h, by simp⟩
/-- append of what another slice has -/
theorem run_app_src {t e : TypeId} {z : Value} {size bytes : Nat} (ht : Tryz.prog.underlying t = some (.slice e)) (hinfo : (Tryz.prog.info? e).map (fun i => (i.zero, i.size, i.bytes)) = some (some z, size, bytes)) (hzs : z.cells.size = size) (hsz : 0 < size)
    (B : Nat) (ty : TypeId) (w : World) (v src : Value) (n k : Nat) (xs ys : List Value) (hown : w.ownsRow B e size v n xs) (hsrc : w.ownsRow 0 e size src k ys) (h1 : ∀ u ∈ ys, u.oneCell' = true)
    (hl2 : n + k ≤ 140737488355328) (hlen : (n + k) * bytes ≤ 140737488355328) (hB : B ≤ w.heap.size) :
    ∃ v' w', (Builtin.append_ #[t, t] ty #[v, src]).run Tryz.prog w = .ok v' w' ∧ w'.ownsRow B e size v' (n + k) (xs ++ ys) ∧ w.grownBy w' v.ownBlock ∧ (v'.ownBlock = v.ownBlock ∨ v'.ownBlock = some w.heap.size) := by
  obtain ⟨i0, hi, hz0, hz1, hz2⟩ := info_parts hinfo
  have hs := hsrc
  rcases hsrc.2 with ⟨rfl, rfl⟩ | ⟨g, cap, cur, rfl, _⟩
  · have hy : ys = [] := List.eq_nil_of_length_eq_zero (by simpa using hsrc.1)
    subst hy
    refine ⟨v, w, ?_, by rw [List.append_nil]; exact hown, ⟨rfl, rfl, rfl, Nat.le_refl _, fun _ _ _ => rfl⟩, .inl rfl⟩
    rcases hown.2 with ⟨rfl, hn⟩ | ⟨g, cp, cur, rfl, _, _, hnc, _⟩
    · simp [Builtin.append_, run_underlying ht, sizeOf, typeInfo, hi, Builtin.lenOf, Builtin.firstCells]
    · simp [Builtin.append_, run_underlying ht, sizeOf, typeInfo, hi, Builtin.lenOf, Builtin.firstCells, hnc, storeCells]
  · obtain ⟨v', w', hr, ho', hg, _, hloc⟩ := run_append_own_at (P := Tryz.prog) w B t ty e i0 z size bytes ht hi hz0 hz1 hz2 hzs hsz v n xs hown ⟨g, 0, none⟩ k cap ys hs.1 (hs.cells rfl) h1 (by unfold maxLen; omega) hlen hB
    exact ⟨v', w', hr, ho', hg, hloc⟩
theorem app_src {ops : Array Oper} {rest : List Oper} {o : Oper} {a : Act} {Q : Exit → Act → World → Prop} {t e : TypeId} {z : Value} {size bytes : Nat} {B : Nat} {w : World} {v src : Value} {n k : Nat} {xs ys : List Value}
    (ht : Tryz.prog.underlying t = some (.slice e)) (hinfo : (Tryz.prog.info? e).map (fun i => (i.zero, i.size, i.bytes)) = some (some z, size, bytes)) (hzs : z.cells.size = size) (hsz : 0 < size)
    (hwant : Region.wanted o (yielded ops a.tmps) = true) (s x : Operand) (ho : o.op = .call { callee := .builtin .append, args := #[s, x], argTypes := #[t, t] })
    (hs : a.eval s = v) (hx : a.eval x = src) (hown : w.ownsRow B e size v n xs) (hsrc : w.ownsRow 0 e size src k ys) (h1 : ∀ u ∈ ys, u.oneCell' = true)
    (hl2 : n + k ≤ 140737488355328) (hlen : (n + k) * bytes ≤ 140737488355328) (hB : B ≤ w.heap.size)
    (h : ∀ v' w', w'.ownsRow B e size v' (n + k) (xs ++ ys) → w.grownBy w' v.ownBlock → (v'.ownBlock = v.ownBlock ∨ v'.ownBlock = some w.heap.size) → wpList Tryz.prog ops Q rest (a.put o.dst v') w') :
    wpList Tryz.prog ops Q (o :: rest) a w := by
  obtain ⟨v', w', hr, r1, r2, r3⟩ := run_app_src ht hinfo hzs hsz B o.type w v src n k xs ys hown hsrc h1 hl2 hlen hB
  refine BigFrame.wpList_want hwant fun K hK => ?_
  unfold Oper.wp execOp
  simp only [ho, resolve, invoke, builtin, Sem.run_bind, Sem.run_pure, Result.andThen_ok, List.map_toArray, List.map_cons, List.map_nil, hs, hx, hr]
  exact hK _ _ (h v' w' r1 r2 r3)
/-- an empty row in new memory -/
theorem ownsRow_empty (w : World) (e : TypeId) (size : Nat) : (w.alloc (.cells #[] e)).ownsRow w.heap.size e size (.slice (some ⟨w.heap.size, 0, none⟩) 0 0) 0 [] :=
  World.ownsRow_made w #[] 0 (Nat.le_refl _) (Nat.zero_le _) (by simp)
theorem ownsRow_base {w : World} {B B' : Nat} {e : TypeId} {size : Nat} {v : Value} {n : Nat} {xs : List Value} (h : w.ownsRow B e size v n xs) (hB : B' ≤ B) : w.ownsRow B' e size v n xs := by
  refine ⟨h.1, ?_⟩
  rcases h.2 with h2 | ⟨g, cap, cur, e, hg, r⟩
  · exact .inl h2
  · exact .inr ⟨g, cap, cur, e, by omega, r⟩
/-- append of one element, where the order is drawn -/
theorem step_gen {ops : Array Oper} {o : Oper} {a : Act} {K : Act → World → Prop} {Q : Exit → Act → World → Prop} {E : Prop} {t e : TypeId} {z : Value} {size bytes : Nat} {B : Nat} {wr : World} {v : Value} {n : Nat} {xs news : List Value}
    (hgd : o.guard = none) (ht : Tryz.prog.underlying t = some (.slice e)) (hinfo : (Tryz.prog.info? e).map (fun i => (i.zero, i.size, i.bytes)) = some (some z, size, bytes)) (hzs : z.cells.size = size) (hsz : 0 < size)
    (s x : Operand) (ho : o.op = .call { callee := .builtin .append, args := #[s, x], argTypes := #[t, t] })
    (hs : a.eval s = v) (hx : a.eval x = .slice (some ⟨wr.heap.size, 0, none⟩) 1 1) (hown : wr.ownsRow B e size v n xs) (hB : B ≤ wr.heap.size) (hnl : news.length = size) (h1 : ∀ u ∈ news, u.oneCell' = true) (hlen : (n + 1) * bytes ≤ 140737488355328) (hl2 : n + 1 ≤ 140737488355328)
    (h : ∀ a' cap' w', w'.ownsRow B e size (.slice a' (n + 1) cap') (n + 1) (xs ++ news) → wr.grownBy w' v.ownBlock → ((Value.slice a' (n + 1) cap').ownBlock = v.ownBlock ∨ ∃ g, (Value.slice a' (n + 1) cap').ownBlock = some g ∧ wr.heap.size ≤ g) → K (a.put o.dst (.slice a' (n + 1) cap')) w') :
    if Region.wanted o (yielded ops a.tmps) = true then Oper.wp Tryz.prog o a (wr.alloc (.cells news.toArray e)) K Q else E := by
  have hw : Region.wanted o (yielded ops a.tmps) = true := by simp [Region.wanted, hgd]
  rw [if_pos hw]
  obtain ⟨i0, hi, hz0, hz1, hz2⟩ := info_parts hinfo
  obtain ⟨v', w', hr, ho', hg, _, hloc⟩ := run_append_own_at (P := Tryz.prog) (wr.alloc (.cells news.toArray e)) B t o.type e i0 z size bytes ht hi hz0 hz1 hz2 hzs hsz v n xs (World.ownsRow.alloc hown _) ⟨wr.heap.size, 0, none⟩ 1 1 news (by omega)
    (fun j u hj => by
      rw [Go.WideShapes.add_plain, Nat.zero_add]
      simpa using hj)
    h1 (by unfold maxLen; omega) hlen (by simp; omega)
  have hform : ∃ a' cap', v' = .slice a' (n + 1) cap' := by
    rcases ho'.2 with ⟨_, hn⟩ | ⟨g, cap, cur, e, _⟩
    · omega
    · exact ⟨_, _, e⟩
  obtain ⟨a', cap', rfl⟩ := hform
  unfold Oper.wp execOp
  simp only [ho, resolve, invoke, builtin, Sem.run_bind, Sem.run_pure, Result.andThen_ok, List.map_toArray, List.map_cons, List.map_nil, hs, hx, hr]
  refine h a' cap' w' ho' ⟨hg.os, hg.tape, hg.output, Nat.le_trans (by simp) hg.size, fun k hk hn => (hg.block k (by simp; omega) hn).trans (Below.heap_alloc _ _ _ hk)⟩ ?_
  rcases hloc with h | h
  · exact .inl h
  · exact .inr ⟨_, h, by simp⟩
theorem step_src {ops : Array Oper} {o : Oper} {a : Act} {K : Act → World → Prop} {Q : Exit → Act → World → Prop} {E : Prop} {t e : TypeId} {z : Value} {size bytes : Nat} {B : Nat} {w : World} {v src : Value} {n k : Nat} {xs ys : List Value}
    (hgd : o.guard = none) (ht : Tryz.prog.underlying t = some (.slice e)) (hinfo : (Tryz.prog.info? e).map (fun i => (i.zero, i.size, i.bytes)) = some (some z, size, bytes)) (hzs : z.cells.size = size) (hsz : 0 < size)
    (s x : Operand) (ho : o.op = .call { callee := .builtin .append, args := #[s, x], argTypes := #[t, t] })
    (hs : a.eval s = v) (hx : a.eval x = src) (hown : w.ownsRow B e size v n xs) (hsrc : w.ownsRow 0 e size src k ys) (h1 : ∀ u ∈ ys, u.oneCell' = true)
    (hl2 : n + k ≤ 140737488355328) (hlen : (n + k) * bytes ≤ 140737488355328) (hB : B ≤ w.heap.size)
    (h : ∀ v' w', w'.ownsRow B e size v' (n + k) (xs ++ ys) → w.grownBy w' v.ownBlock → (v'.ownBlock = v.ownBlock ∨ v'.ownBlock = some w.heap.size) → K (a.put o.dst v') w') :
    if Region.wanted o (yielded ops a.tmps) = true then Oper.wp Tryz.prog o a w K Q else E := by
  have hw : Region.wanted o (yielded ops a.tmps) = true := by simp [Region.wanted, hgd]
  rw [if_pos hw]
  obtain ⟨v', w', hr, r1, r2, r3⟩ := run_app_src ht hinfo hzs hsz B o.type w v src n k xs ys hown hsrc h1 hl2 hlen hB
  unfold Oper.wp execOp
  simp only [ho, resolve, invoke, builtin, Sem.run_bind, Sem.run_pure, Result.andThen_ok, List.map_toArray, List.map_cons, List.map_nil, hs, hx, hr]
  exact h v' w' r1 r2 r3
theorem keepKind {w w' : World} {B e size n : Nat} {v : Value} {xs : List Value} (hown : w.ownsRow B e size v n xs) (hg : w.grownBy w' v.ownBlock) {e' : TypeId} (hne : e ≠ e') {B' size' n' : Nat} {v' : Value} {xs' : List Value} (h : w.ownsRow B' e' size' v' n' xs') : w'.ownsRow B' e' size' v' n' xs' := by
  refine ownsRow_same h (fun g hg' => hg.block g (h.lt g hg').2 (fun e1 => ?_))
  obtain ⟨c1, h1⟩ := ownsRow_kind h hg'
  obtain ⟨c2, h2⟩ := ownsRow_kind hown e1.symm
  rw [h2] at h1
  simp at h1
  exact hne h1.2
theorem emptyRow {w : World} {g B : Nat} {e : TypeId} {size : Nat} (h : w.heap[g]? = some (.cells #[] e (0, 0))) (hB : B ≤ g) : w.ownsRow B e size (.slice (some ⟨g, 0, none⟩) 0 0) 0 [] :=
  ⟨by simp, .inr ⟨g, 0, #[], rfl, hB, h, Nat.le_refl _, Nat.zero_le _, by simp, by simp⟩⟩
theorem info9 : (Tryz.prog.info? 9).map (fun i => (i.zero, i.size, i.bytes)) = some (some (.string ByteArray.empty), 1, 16) := by kernel_rfl
theorem info126 : (Tryz.prog.info? 126).map (fun i => (i.zero, i.size, i.bytes)) = some (some (.agg #[.string ByteArray.empty, .string ByteArray.empty]), 2, 32) := by kernel_rfl
theorem info153 : (Tryz.prog.info? 153).map (fun i => (i.zero, i.size, i.bytes)) = some (some (.agg #[.string ByteArray.empty, .int .i64 0]), 2, 24) := by kernel_rfl
theorem info43 : (Tryz.prog.info? 43).map (fun i => (i.zero, i.size, i.bytes)) = some (some (.agg #[.bool false, .slice none 0 0, .slice none 0 0]), 3, 56) := by kernel_rfl
end Go.Proofs.YtlmgmdnmghgkbaaGreatDoor.L6

/- What stands ahead: the closure that tells an error, and the numbers at the beginning of a text. -/
namespace Go.Proofs.YtlmgmdnmghgkbaaGreatDoor.L6
open Go.ChangeShapes Go.WideShapes Go.ChangeAt Go.RowKit

/-- a reader in memory -/
def Rd (w : World) (r : Nat) (L : ByteArray) (e : Nat) : Prop := w.heap[r]? = some (.cells #[.string L, .int .i64 (e : Int)] 332 (0, 0))
theorem Rd.cell0 {w : World} {r e : Nat} {L : ByteArray} (h : Rd w r L e) : w.cell? ⟨r, 0, none⟩ = some (.string L) := by
  unfold Rd at h
  simp [World.cell?, h]
theorem Rd.cell1 {w : World} {r e : Nat} {L : ByteArray} (h : Rd w r L e) : w.cell? ⟨r, 1, none⟩ = some (.int .i64 (e : Int)) := by
  unfold Rd at h
  simp [World.cell?, h]
theorem Rd.free {w : World} {r e : Nat} {L : ByteArray} (h : Rd w r L e) (i : Nat) : w.frozen? ⟨r, i, none⟩ = false := by
  unfold Rd at h
  simp [World.frozen?, h]
theorem Rd.lt {w : World} {r e : Nat} {L : ByteArray} (h : Rd w r L e) : r < w.heap.size := (Array.getElem?_eq_some_iff.1 h).1
theorem Rd.setErr {w : World} {r e : Nat} {L : ByteArray} (h : Rd w r L e) (e' : Nat) : Rd (w.setCell ⟨r, 1, none⟩ (.int .i64 (e' : Int))) r L e' := by
  unfold Rd at *
  simp [World.setCell, Array.getElem?_modify, h]
theorem Rd.setLeft {w : World} {r e : Nat} {L : ByteArray} (h : Rd w r L e) (L' : ByteArray) : Rd (w.setCell ⟨r, 0, none⟩ (.string L')) r L' e := by
  unfold Rd at *
  simp [World.setCell, Array.getElem?_modify, h]

theorem full_of {s : ByteArray} (h : 0 < s.size) : s.toList.isEmpty = false := by
  rw [ByteArray.toList_eq, List.isEmpty_eq_false_iff]
  intro e
  have : s.data.toList.length = 0 := by rw [e]; rfl
  rw [Array.length_toList] at this
  exact absurd this (Nat.ne_of_gt h)

/-- the closure tells an error: it is the reader's -/
def tellW (w : World) (r er : Nat) : World := if er = 0 then w else w.setCell ⟨r, 1, none⟩ (.int .i64 (er : Int))

set_option maxHeartbeats 400000 in
theorem tell40 (x : Int) (c r e : Nat) (L : ByteArray) (w : World) (hc : w.cell? ⟨c, 0, none⟩ = some (.pointer (some ⟨r, 0, none⟩))) (hr : Rd w r L e) :
    Calls Tryz.prog 255 #[.int .i64 x, .pointer (some ⟨c, 0, none⟩)] w fun e w' => e = .returned (.tuple #[]) ∧ w' = w.setCell ⟨r, 1, none⟩ (.int .i64 x) := by
  have h1 := hr.cell1
  have hf := hr.free 1
  clear hr
  go_enter Tryz.func255, Tryz.ntmps255
  go_wp2
  go_end0
  exact ⟨rfl, rfl⟩
set_option maxHeartbeats 400000 in
theorem tell41 (x : Int) (c r e : Nat) (L : ByteArray) (w : World) (hc : w.cell? ⟨c, 0, none⟩ = some (.pointer (some ⟨r, 0, none⟩))) (hr : Rd w r L e) :
    Calls Tryz.prog 256 #[.int .i64 x, .pointer (some ⟨c, 0, none⟩)] w fun e w' => e = .returned (.tuple #[]) ∧ w' = w.setCell ⟨r, 1, none⟩ (.int .i64 x) := by
  have h1 := hr.cell1
  have hf := hr.free 1
  clear hr
  go_enter Tryz.func256, Tryz.ntmps256
  go_wp2
  go_end0
  exact ⟨rfl, rfl⟩
set_option maxHeartbeats 400000 in
theorem tell42 (x : Int) (c r e : Nat) (L : ByteArray) (w : World) (hc : w.cell? ⟨c, 0, none⟩ = some (.pointer (some ⟨r, 0, none⟩))) (hr : Rd w r L e) :
    Calls Tryz.prog 272 #[.int .i64 x, .pointer (some ⟨c, 0, none⟩)] w fun e w' => e = .returned (.tuple #[]) ∧ w' = w.setCell ⟨r, 1, none⟩ (.int .i64 x) := by
  have h1 := hr.cell1
  have hf := hr.free 1
  clear hr
  go_enter Tryz.func272, Tryz.ntmps272
  go_wp2
  go_end0
  exact ⟨rfl, rfl⟩

set_option maxHeartbeats 400000 in
theorem byteAhead_none (c r e : Nat) (L s : ByteArray) (w : World) (hs : s.size = 0) (hc : w.cell? ⟨c, 0, none⟩ = some (.pointer (some ⟨r, 0, none⟩))) (hr : Rd w r L e) :
    Calls Tryz.prog 236 #[.string s, .func (.func 255) #[] #[.pointer (some ⟨c, 0, none⟩)]] w fun e w' => e = .returned (.tuple #[.int .u8 0, .int .i64 0]) ∧ w' = w.setCell ⟨r, 1, none⟩ (.int .i64 20) := by
  obtain rfl : s = ⟨#[]⟩ := ByteArray.ext (Array.eq_empty_of_size_eq_zero hs)
  have HC := hide hc
  have HR := hide hr
  clear hc hr hs
  go_enter Tryz.func236, Tryz.ntmps236
  go_wp2_with (go_at_call 255; refine (tell40 _ _ _ _ _ _ (unhide HC) (unhide HR)).mono ?_; rintro e w' ⟨rfl, rfl⟩)
  go_ret2
  exact ⟨rfl, rfl⟩
set_option maxHeartbeats 400000 in
theorem byteAhead_some (v : Value) (s : ByteArray) (w : World) (hs : 0 < s.size) :
    Calls Tryz.prog 236 #[.string s, v] w fun e w' => e = .returned (.tuple #[.int .u8 ((s[0]).toNat : Int), .int .i64 1]) ∧ w' = w := by
  have he := full_of hs
  go_enter Tryz.func236, Tryz.ntmps236
  go_wp2
  go_ret2
  exact ⟨rfl, rfl⟩

/-- where the loop over a short number stands -/
def At (s : ByteArray) (i n : Nat) : Prop := i ≤ 9 ∧ n < 2 ^ (7 * i) ∧ Pk.scan (bn s) = Pk.sc (10 - i) ((bn s).drop i) i n

theorem drop_at (s : ByteArray) (i : Nat) (h : i < s.size) : (bn s).drop i = s[i].toNat :: (bn s).drop (i + 1) := by
  rw [List.drop_eq_getElem_cons (by rw [bn_length]; exact h)]
  congr 1
  have := bn_at s i h
  rw [List.getElem?_eq_getElem (by rw [bn_length]; exact h)] at this
  exact Option.some.inj this
theorem At.bad {s : ByteArray} {i n : Nat} (h : At s i n) (hi : i < s.size) (hf : (i = 9 ∧ 1 < s[i].toNat) ∨ (0 < i ∧ s[i].toNat = 0)) : Pk.scan (bn s) = (0, 0, 21) := by
  obtain ⟨h9, _, he⟩ := h
  rw [he, drop_at s i hi, show 10 - i = (9 - i) + 1 by omega, Pk.sc, if_pos hf]
theorem At.stop {s : ByteArray} {i n : Nat} (h : At s i n) (hi : i < s.size) (hf : ¬ ((i = 9 ∧ 1 < s[i].toNat) ∨ (0 < i ∧ s[i].toNat = 0))) (hb : s[i].toNat < 128) : Pk.scan (bn s) = (n + s[i].toNat * 2 ^ (7 * i), i + 1, 0) := by
  obtain ⟨h9, _, he⟩ := h
  rw [he, drop_at s i hi, show 10 - i = (9 - i) + 1 by omega, Pk.sc, if_neg hf, if_pos hb]
theorem At.step {s : ByteArray} {i n : Nat} (h : At s i n) (hi : i < s.size) (hf : ¬ ((i = 9 ∧ 1 < s[i].toNat) ∨ (0 < i ∧ s[i].toNat = 0))) (hb : ¬ s[i].toNat < 128) : At s (i + 1) (n + (s[i].toNat - 128) * 2 ^ (7 * i)) := by
  obtain ⟨h9, hn, he⟩ := h
  have hlt := s[i].toNat_lt
  refine ⟨by omega, ?_, ?_⟩
  · rw [Pk.pow_step]
    generalize 2 ^ (7 * i) = p at *
    have : (s[i].toNat - 128) * p ≤ 127 * p := Nat.mul_le_mul_right _ (by omega)
    omega
  · rw [he, drop_at s i hi, show 10 - i = (9 - i) + 1 by omega, Pk.sc, if_neg hf, if_neg hb, show 10 - (i + 1) = 9 - i by omega]
theorem At.out {s : ByteArray} {i n : Nat} (h : At s i n) (hi : s.size ≤ i) : Pk.scan (bn s) = (0, 0, 20) := by
  obtain ⟨h9, _, he⟩ := h
  rw [he, List.drop_of_length_le (by rw [bn_length]; exact hi), show 10 - i = (9 - i) + 1 by omega, Pk.sc]

theorem ret2_int {k j : IntKind} {a a' b b' : Int} (h : a = a') (h' : b = b') : Ending.returned (.tuple #[.int k a, .int j b]) = .returned (.tuple #[.int k a', .int j b']) := by rw [h, h']
theorem int_eq {k : IntKind} {a b : Int} (h : a = b) : Value.int k a = .int k b := by rw [h]
theorem pow_le9 (i : Nat) (hi : i ≤ 9) : 2 ^ (7 * i) ≤ 9223372036854775808 := by
  have : 2 ^ (7 * i) ≤ 2 ^ 63 := Nat.pow_le_pow_right (by decide) (by omega)
  simpa using this
theorem or_at (n i b : Nat) (hi : i ≤ 9) (hn : n < 2 ^ (7 * i)) (hx : b * 2 ^ (7 * i) < 18446744073709551616) : bits .or .u64 (n : Int) ((b * 2 ^ (7 * i) : Nat) : Int) = ((n + b * 2 ^ (7 * i) : Nat) : Int) := by
  have := pow_le9 i hi
  rw [u64_or_nat n _ (by omega) hx]
  have := Nat.two_pow_add_eq_or_of_lt hn b
  rw [Nat.or_comm, Nat.mul_comm b, ← this, Nat.add_comm]
theorem wrap_at (x : Nat) (h : x < 18446744073709551616) : IntKind.u64.wrap (x : Int) = (x : Int) := by
  rw [IntKind.wrap_u64]
  omega
theorem shl_lt (i b : Nat) (hi : i ≤ 8) (hb : b < 128) : b * 2 ^ (7 * i) < 18446744073709551616 := by
  have h1 : 2 ^ (7 * i) ≤ 2 ^ 56 := Nat.pow_le_pow_right (by decide) (by omega)
  have h2 : b * 2 ^ (7 * i) ≤ 127 * 2 ^ 56 := Nat.mul_le_mul (by omega) h1
  omega
theorem cast_shl (b i : Nat) : (b : Int) * 2 ^ (7 * i) = ((b * 2 ^ (7 * i) : Nat) : Int) := by simp
theorem or_lo (n i b : Nat) (hn : n < 2 ^ (7 * i)) (hb : b < 128) (hi : i ≤ 8) : bits .or .u64 (n : Int) (IntKind.u64.wrap ((b : Int) * 2 ^ (7 * i))) = ((n + b * 2 ^ (7 * i) : Nat) : Int) := by
  have h := shl_lt i b hi hb
  rw [cast_shl, wrap_at _ h]
  exact or_at n i b (by omega) hn h
theorem or9 (n b : Nat) (hn : n < 2 ^ (7 * 9)) (hb : b ≤ 1) : bits .or .u64 (n : Int) ((b : Int) * 9223372036854775808) = ((n + b * 2 ^ (7 * 9) : Nat) : Int) := by
  have h := or_at n 9 b (by omega) hn (by omega)
  rw [← cast_shl] at h
  exact h
theorem or_hi (n i b : Nat) (hn : n < 2 ^ (7 * i)) (hb : ¬ b < 128) (hb' : b < 256) (hi : i ≤ 8) : bits .or .u64 (n : Int) (IntKind.u64.wrap (((b : Int) - 128) * 2 ^ (7 * i))) = ((n + (b - 128) * 2 ^ (7 * i) : Nat) : Int) := by
  have e : (b : Int) - 128 = ((b - 128 : Nat) : Int) := by omega
  rw [e]
  exact or_lo n i (b - 128) hn (by omega) hi

set_option maxRecDepth 10000 in
set_option maxHeartbeats 2000000 in
theorem shortAhead41 (c r e : Nat) (L s : ByteArray) (w : World) (hs : s.size ≤ maxLen) (hc : w.cell? ⟨c, 0, none⟩ = some (.pointer (some ⟨r, 0, none⟩))) (hr : Rd w r L e) :
    Calls Tryz.prog 261 #[.string s, .func (.func 256) #[] #[.pointer (some ⟨c, 0, none⟩)]] w fun e w' => ∃ n k er : Nat, Pk.scan (bn s) = (n, k, er) ∧ e = .returned (.tuple #[.int .u64 (n : Int), .int .i64 (k : Int)]) ∧ w' = tellW w r er := by
  unfold maxLen at hs
  have HC := hide hc
  have HR := hide hr
  clear hc hr
  go_enter Tryz.func261, Tryz.ntmps261
  go_wp2
  go_step3
  go_wp2
  go_step3
  go_wp2
  go_loop [6, 7, 12] (fun t u j => ∃ i n : Nat, i ≤ s.size ∧ j = .int .i64 i ∧ u = .int .i64 20 ∧ t = .int .u64 n ∧ At s i n) (fun _ _ j => s.size - (intOf j).toNat)
  case atStart => exact ⟨0, 0, by omega, rfl, rfl, rfl, by omega, by decide, rfl⟩
  case round =>
    obtain ⟨i, n, hi, rfl, rfl, rfl, hat⟩ := hrel
    have hi9 : i ≤ 9 := hat.1
    have HA := hide hat
    clear hat
    by_cases hlt : i < s.size
    · have hb : (s[i].toNat : Int) < 256 := by have := s[i].toNat_lt; omega
      by_cases hform : (i = 9 ∧ 1 < s[i].toNat) ∨ (0 < i ∧ s[i].toNat = 0)
      · have HF := hide ((unhide HA).bad hlt hform)
        by_cases h9 : i = 9
        · subst h9
          by_cases h1 : 1 < s[9].toNat
          · clear hform HA
            go_wp2_with (go_at_call 256; refine (tell41 _ _ _ _ _ _ (unhide HC) (unhide HR)).mono ?_; rintro e w' ⟨rfl, rfl⟩)
            try rw [Exit.noGoto_ret]
            go_ret2
            exact ⟨0, 0, 21, unhide HF, rfl, rfl⟩
          · have h0 : s[9].toNat = 0 := by omega
            clear hform HA h1
            go_wp2_with (go_at_call 256; refine (tell41 _ _ _ _ _ _ (unhide HC) (unhide HR)).mono ?_; rintro e w' ⟨rfl, rfl⟩)
            try rw [Exit.noGoto_ret]
            go_ret2
            exact ⟨0, 0, 21, unhide HF, rfl, rfl⟩
        · have h0 : s[i].toNat = 0 := by omega
          have hi0 : 0 < i := by omega
          have h9' : ((i : Int) == 9) = false := beq_eq_false_iff_ne.2 (by omega)
          clear hform HA h9
          go_wp2_with (go_at_call 256; refine (tell41 _ _ _ _ _ _ (unhide HC) (unhide HR)).mono ?_; rintro e w' ⟨rfl, rfl⟩)
          try rw [Exit.noGoto_ret]
          go_ret2
          exact ⟨0, 0, 21, unhide HF, rfl, rfl⟩
      · have HF := hide hform
        by_cases h128 : s[i].toNat < 128
        · have HS := hide ((unhide HA).stop hlt hform h128)
          by_cases h9 : i = 9
          · subst h9
            have h1 : ¬ 1 < s[9].toNat := by omega
            have h0 : 0 < s[9].toNat := by omega
            have HE := hide (or9 n s[9].toNat (unhide HA).2.1 (by omega))
            clear hform HA
            go_wp2
            try rw [Exit.noGoto_ret]
            go_ret2
            exact ⟨_, _, 0, unhide HS, ret2_int (unhide HE) rfl, rfl⟩
          · have HE := hide (or_lo n i s[i].toNat (unhide HA).2.1 h128 (by omega))
            have h9' : ((i : Int) == 9) = false := beq_eq_false_iff_ne.2 (by omega)
            by_cases hi0 : 0 < i
            · have h0 : 0 < s[i].toNat := by omega
              clear hform HA h9
              go_wp2
              try rw [Exit.noGoto_ret]
              go_ret2
              exact ⟨_, _, 0, unhide HS, ret2_int (unhide HE) (by omega), rfl⟩
            · clear hform HA h9
              go_wp2
              try rw [Exit.noGoto_ret]
              go_ret2
              exact ⟨_, _, 0, unhide HS, ret2_int (unhide HE) (by omega), rfl⟩
        · have HS := hide ((unhide HA).step hlt hform h128)
          have h9 : ¬ i = 9 := by omega
          have HE := hide (or_hi n i s[i].toNat (unhide HA).2.1 h128 (by omega) (by omega))
          have h9' : ((i : Int) == 9) = false := beq_eq_false_iff_ne.2 (by omega)
          have h0 : 0 < s[i].toNat := by omega
          clear hform HA h9
          go_wp2
          all_goals go_round
          all_goals first | exact ⟨i + 1, _, by omega, by go_num, rfl, int_eq (unhide HE), unhide HS⟩ | (simp [intOf]; omega)
    · have HF := hide ((unhide HA).out (by omega))
      clear HA
      go_wp2_with (go_at_call 256; refine (tell41 _ _ _ _ _ _ (unhide HC) (unhide HR)).mono ?_; rintro e w' ⟨rfl, rfl⟩)
      try rw [Exit.noGoto_ret]
      go_ret2
      exact ⟨0, 0, 20, unhide HF, rfl, rfl⟩
end Go.Proofs.YtlmgmdnmghgkbaaGreatDoor.L6

/- The short number at the beginning of a text, as a text's length; the copy of a text; the text at the beginning. -/
namespace Go.Proofs.YtlmgmdnmghgkbaaGreatDoor.L6
open Go.ChangeShapes Go.WideShapes Go.ChangeAt Go.RowKit

set_option maxRecDepth 10000 in
set_option maxHeartbeats 2000000 in
theorem shortAhead42 (c r e : Nat) (L s : ByteArray) (w : World) (hs : s.size ≤ maxLen) (hc : w.cell? ⟨c, 0, none⟩ = some (.pointer (some ⟨r, 0, none⟩))) (hr : Rd w r L e) :
    Calls Tryz.prog 261 #[.string s, .func (.func 272) #[] #[.pointer (some ⟨c, 0, none⟩)]] w fun e w' => ∃ n k er : Nat, Pk.scan (bn s) = (n, k, er) ∧ e = .returned (.tuple #[.int .u64 (n : Int), .int .i64 (k : Int)]) ∧ w' = tellW w r er := by
  unfold maxLen at hs
  have HC := hide hc
  have HR := hide hr
  clear hc hr
  go_enter Tryz.func261, Tryz.ntmps261
  go_wp2
  go_step3
  go_wp2
  go_step3
  go_wp2
  go_loop [6, 7, 12] (fun t u j => ∃ i n : Nat, i ≤ s.size ∧ j = .int .i64 i ∧ u = .int .i64 20 ∧ t = .int .u64 n ∧ At s i n) (fun _ _ j => s.size - (intOf j).toNat)
  case atStart => exact ⟨0, 0, by omega, rfl, rfl, rfl, by omega, by decide, rfl⟩
  case round =>
    obtain ⟨i, n, hi, rfl, rfl, rfl, hat⟩ := hrel
    have hi9 : i ≤ 9 := hat.1
    have HA := hide hat
    clear hat
    by_cases hlt : i < s.size
    · have hb : (s[i].toNat : Int) < 256 := by have := s[i].toNat_lt; omega
      by_cases hform : (i = 9 ∧ 1 < s[i].toNat) ∨ (0 < i ∧ s[i].toNat = 0)
      · have HF := hide ((unhide HA).bad hlt hform)
        by_cases h9 : i = 9
        · subst h9
          by_cases h1 : 1 < s[9].toNat
          · clear hform HA
            go_wp2_with (go_at_call 272; refine (tell42 _ _ _ _ _ _ (unhide HC) (unhide HR)).mono ?_; rintro e w' ⟨rfl, rfl⟩)
            try rw [Exit.noGoto_ret]
            go_ret2
            exact ⟨0, 0, 21, unhide HF, rfl, rfl⟩
          · have h0 : s[9].toNat = 0 := by omega
            clear hform HA h1
            go_wp2_with (go_at_call 272; refine (tell42 _ _ _ _ _ _ (unhide HC) (unhide HR)).mono ?_; rintro e w' ⟨rfl, rfl⟩)
            try rw [Exit.noGoto_ret]
            go_ret2
            exact ⟨0, 0, 21, unhide HF, rfl, rfl⟩
        · have h0 : s[i].toNat = 0 := by omega
          have hi0 : 0 < i := by omega
          have h9' : ((i : Int) == 9) = false := beq_eq_false_iff_ne.2 (by omega)
          clear hform HA h9
          go_wp2_with (go_at_call 272; refine (tell42 _ _ _ _ _ _ (unhide HC) (unhide HR)).mono ?_; rintro e w' ⟨rfl, rfl⟩)
          try rw [Exit.noGoto_ret]
          go_ret2
          exact ⟨0, 0, 21, unhide HF, rfl, rfl⟩
      · have HF := hide hform
        by_cases h128 : s[i].toNat < 128
        · have HS := hide ((unhide HA).stop hlt hform h128)
          by_cases h9 : i = 9
          · subst h9
            have h1 : ¬ 1 < s[9].toNat := by omega
            have h0 : 0 < s[9].toNat := by omega
            have HE := hide (or9 n s[9].toNat (unhide HA).2.1 (by omega))
            clear hform HA
            go_wp2
            try rw [Exit.noGoto_ret]
            go_ret2
            exact ⟨_, _, 0, unhide HS, ret2_int (unhide HE) rfl, rfl⟩
          · have HE := hide (or_lo n i s[i].toNat (unhide HA).2.1 h128 (by omega))
            have h9' : ((i : Int) == 9) = false := beq_eq_false_iff_ne.2 (by omega)
            by_cases hi0 : 0 < i
            · have h0 : 0 < s[i].toNat := by omega
              clear hform HA h9
              go_wp2
              try rw [Exit.noGoto_ret]
              go_ret2
              exact ⟨_, _, 0, unhide HS, ret2_int (unhide HE) (by omega), rfl⟩
            · clear hform HA h9
              go_wp2
              try rw [Exit.noGoto_ret]
              go_ret2
              exact ⟨_, _, 0, unhide HS, ret2_int (unhide HE) (by omega), rfl⟩
        · have HS := hide ((unhide HA).step hlt hform h128)
          have h9 : ¬ i = 9 := by omega
          have HE := hide (or_hi n i s[i].toNat (unhide HA).2.1 h128 (by omega) (by omega))
          have h9' : ((i : Int) == 9) = false := beq_eq_false_iff_ne.2 (by omega)
          have h0 : 0 < s[i].toNat := by omega
          clear hform HA h9
          go_wp2
          all_goals go_round
          all_goals first | exact ⟨i + 1, _, by omega, by go_num, rfl, int_eq (unhide HE), unhide HS⟩ | (simp [intOf]; omega)
    · have HF := hide ((unhide HA).out (by omega))
      clear HA
      go_wp2_with (go_at_call 272; refine (tell42 _ _ _ _ _ _ (unhide HC) (unhide HR)).mono ?_; rintro e w' ⟨rfl, rfl⟩)
      try rw [Exit.noGoto_ret]
      go_ret2
      exact ⟨0, 0, 20, unhide HF, rfl, rfl⟩
end Go.Proofs.YtlmgmdnmghgkbaaGreatDoor.L6

/- What the copy of a text is: the same bytes (the library's own contract of that function, laid at this program's numbers). -/
namespace Go.Proofs.YtlmgmdnmghgkbaaGreatDoor.L6
open Go.ChangeShapes Go.WideShapes Go.ChangeAt Go.RowKit Go.Shelf

/-- the shelf's numbers, as this program has them -/
def ren : Ren := ⟨fun n => if n = 25 then 211 else n, fun n => if n = 37 then 68 else if n = 47 then 348 else n, fun n => n⟩
theorem lays : LaysPu.n25 Tryz.prog ren where
  mixed := by kernel_rfl
  f25 := by kernel_rfl
  t0 := by kernel_rfl
  a0 := fun _ => by kernel_rfl
  z0 := fun _ => by kernel_rfl
  v0 := fun _ => by kernel_rfl
  i0 := by kernel_rfl
  t3 := by kernel_rfl
  a3 := fun _ => by kernel_rfl
  z3 := fun _ => by kernel_rfl
  v3 := fun _ => by kernel_rfl
  i3 := by kernel_rfl
  t4 := by kernel_rfl
  a4 := fun _ => by kernel_rfl
  z4 := fun _ => by kernel_rfl
  v4 := fun _ => by kernel_rfl
  i4 := by kernel_rfl
  t5 := by kernel_rfl
  a5 := fun _ => by kernel_rfl
  z5 := fun _ => by kernel_rfl
  v5 := fun _ => by kernel_rfl
  i5 := by kernel_rfl
  t9 := by kernel_rfl
  a9 := fun _ => by kernel_rfl
  z9 := fun _ => by kernel_rfl
  v9 := fun _ => by kernel_rfl
  i9 := by kernel_rfl
  t37 := by kernel_rfl
  a37 := fun _ => by kernel_rfl
  z37 := fun _ => by kernel_rfl
  v37 := fun _ => by kernel_rfl
  i37 := by kernel_rfl
  t47 := by kernel_rfl
  a47 := fun _ => by kernel_rfl
  z47 := fun _ => by kernel_rfl
  v47 := fun _ => by kernel_rfl
  i47 := by kernel_rfl

theorem sclone_any (s : ByteArray) (w : World) (hlim : s.size ≤ 1000000) :
    Calls Tryz.prog 211 #[.string s] w fun e w' => e = .returned (.string s) ∧ Below w.heap.size w w' :=
  AnyPu.stringslite_Clone lays s w (by omega)

set_option maxHeartbeats 400000 in
theorem clone_any (s : ByteArray) (w : World) (hlim : s.size ≤ 1000000) :
    Calls Tryz.prog 176 #[.string s] w fun e w' => e = .returned (.string s) ∧ Below w.heap.size w w' := by
  go_enter Tryz.func176, Tryz.ntmps176
  go_wp2_with (go_at_call 211; refine (sclone_any _ _ hlim).mono ?_; rintro e w' ⟨rfl, hb⟩)
  go_ret
  exact ⟨rfl, hb⟩
end Go.Proofs.YtlmgmdnmghgkbaaGreatDoor.L6

/- The text at the beginning of a text. -/
namespace Go.Proofs.YtlmgmdnmghgkbaaGreatDoor.L6
open Go.ChangeShapes Go.WideShapes Go.ChangeAt Go.RowKit

/-- the text at the front, of at most so many bytes: the text, its size with its length, the error -/
def textOf (s : ByteArray) (most : Int) : ByteArray × Nat × Nat :=
  if (Pk.scan (bn s)).2.2 ≠ 0 then (⟨#[]⟩, 0, (Pk.scan (bn s)).2.2)
  else if most < 0 ∨ most < ((Pk.scan (bn s)).1 : Int) then (⟨#[]⟩, 0, 22)
  else if s.size - (Pk.scan (bn s)).2.1 < (Pk.scan (bn s)).1 then (⟨#[]⟩, 0, 20)
  else (s.extract (Pk.scan (bn s)).2.1 ((Pk.scan (bn s)).2.1 + (Pk.scan (bn s)).1), (Pk.scan (bn s)).2.1 + (Pk.scan (bn s)).1, 0)

theorem scan_cases (s : ByteArray) : (∃ n k, Pk.scan (bn s) = (n, k, 0) ∧ n < 18446744073709551616 ∧ 0 < k ∧ k ≤ 10 ∧ k ≤ s.size ∧ k = (Pk.shL n).length ∧ (bn s).take k = Pk.shL n) ∨ (∃ er, Pk.scan (bn s) = (0, 0, er) ∧ er ≠ 0 ∧ er ≤ 21 ∧ 20 ≤ er) := by
  rcases Pk.scan_one (bn s) (bn_lt s) with ⟨n, e, h1, h2, h3⟩ | e | e
  · rw [bn_length] at h2
    exact .inl ⟨n, _, e, h1, Pk.shL_pos n, Pk.shL_le n, h2, rfl, h3⟩
  · exact .inr ⟨20, e, by decide, by decide, by decide⟩
  · exact .inr ⟨21, e, by decide, by decide, by decide⟩

/-- nothing but the reader has turned, and the reader is this -/
def Told (w w' : World) (r : Nat) (L : ByteArray) (e : Nat) : Prop := w.grownBy w' (some r) ∧ Rd w' r L e
theorem grown_refl (w : World) (r : Option Nat) : w.grownBy w r := ⟨rfl, rfl, rfl, Nat.le_refl _, fun _ _ _ => rfl⟩
theorem grown_set (w : World) (g j : Nat) (u : Value) : w.grownBy (w.setCell ⟨g, j, none⟩ u) (some g) :=
  ⟨rfl, rfl, rfl, by simp, fun k _ hne => Below.heap_setCell w ⟨g, j, none⟩ u k (fun e => hne (by rw [e]))⟩
theorem grown_trans {a b c : World} {r : Option Nat} (h : a.grownBy b r) (k : b.grownBy c r) : a.grownBy c r :=
  ⟨k.os.trans h.os, k.tape.trans h.tape, k.output.trans h.output, Nat.le_trans h.size k.size, fun i hi hne => (k.block i (Nat.lt_of_lt_of_le hi h.size) hne).trans (h.block i hi hne)⟩
theorem grown_below {w w' : World} (h : Below w.heap.size w w') (r : Option Nat) : w.grownBy w' r := ⟨h.os, h.tape, h.output, h.size, fun k hk _ => h.block k hk⟩
theorem Rd.below {w w' : World} {r e : Nat} {L : ByteArray} (h : Rd w r L e) (hb : Below w.heap.size w w') : Rd w' r L e := (hb.block r h.lt).trans h
theorem Told.refl {w : World} {r e : Nat} {L : ByteArray} (h : Rd w r L e) : Told w w r L e := ⟨grown_refl _ _, h⟩
theorem Told.err {w : World} {r e : Nat} {L : ByteArray} (h : Rd w r L e) (e' : Nat) : Told w (w.setCell ⟨r, 1, none⟩ (.int .i64 (e' : Int))) r L e' := ⟨grown_set _ _ _ _, h.setErr e'⟩
theorem Told.tell {w : World} {r : Nat} {L : ByteArray} (h : Rd w r L 0) (e' : Nat) : Told w (tellW w r e') r L e' := by
  unfold tellW
  split
  · rename_i h0; subst h0; exact .refl h
  · exact .err h e'

theorem textOf_bad {s : ByteArray} {er : Nat} (most : Int) (h : Pk.scan (bn s) = (0, 0, er)) (h0 : er ≠ 0) : textOf s most = (⟨#[]⟩, 0, er) := by
  unfold textOf
  rw [h, if_pos h0]
theorem textOf_long {s : ByteArray} {n k : Nat} {most : Int} (h : Pk.scan (bn s) = (n, k, 0)) (hm : most < 0 ∨ most < (n : Int)) : textOf s most = (⟨#[]⟩, 0, 22) := by
  unfold textOf
  rw [h, if_neg (by simp), if_pos hm]
theorem textOf_short {s : ByteArray} {n k : Nat} {most : Int} (h : Pk.scan (bn s) = (n, k, 0)) (hm : ¬ (most < 0 ∨ most < (n : Int))) (hl : s.size - k < n) : textOf s most = (⟨#[]⟩, 0, 20) := by
  unfold textOf
  rw [h, if_neg (by simp), if_neg hm, if_pos hl]
theorem textOf_ok {s : ByteArray} {n k : Nat} {most : Int} (h : Pk.scan (bn s) = (n, k, 0)) (hm : ¬ (most < 0 ∨ most < (n : Int))) (hl : ¬ s.size - k < n) : textOf s most = (s.extract k (k + n), k + n, 0) := by
  unfold textOf
  rw [h, if_neg (by simp), if_neg hm, if_neg hl]

theorem ret2_si {k : IntKind} {t : ByteArray} {a b : Int} (h : a = b) : Ending.returned (.tuple #[.string t, .int k a]) = .returned (.tuple #[.string t, .int k b]) := by rw [h]

set_option maxRecDepth 10000 in
set_option maxHeartbeats 2000000 in
theorem textAhead42 (c r : Nat) (L s : ByteArray) (most : Int) (w : World) (hs : s.size ≤ 1000000) (hm : -9223372036854775808 ≤ most ∧ most ≤ 9223372036854775807) (hc : w.cell? ⟨c, 0, none⟩ = some (.pointer (some ⟨r, 0, none⟩))) (hr : Rd w r L 0) :
    Calls Tryz.prog 264 #[.string s, .int .i64 most, .func (.func 272) #[] #[.pointer (some ⟨c, 0, none⟩)]] w fun e w' => e = .returned (.tuple #[.string (textOf s most).1, .int .i64 ((textOf s most).2.1 : Int)]) ∧ Told w w' r L (textOf s most).2.2 := by
  have hS := (shortAhead42 c r 0 L s w (by unfold maxLen; omega) hc hr)
  have HC := hide hc
  have HR := hide hr
  clear hc hr
  rcases scan_cases s with ⟨n, k, hsc, hn, hk0, hk10, hks, hx1, hx2⟩ | ⟨er, hsc, h0, _, _⟩
  · clear hx1 hx2
    have hS' : Calls Tryz.prog 261 #[.string s, .func (.func 272) #[] #[.pointer (some ⟨c, 0, none⟩)]] w fun e w' => e = .returned (.tuple #[.int .u64 (n : Int), .int .i64 (k : Int)]) ∧ w' = w := by
      refine hS.mono ?_
      rintro e w' ⟨n', k', er, h, rfl, rfl⟩
      rw [hsc] at h
      obtain ⟨rfl, rfl, rfl⟩ : n = n' ∧ k = k' ∧ 0 = er := by simpa using h
      exact ⟨rfl, rfl⟩
    have HS := hide hS'
    clear hS hS'
    by_cases hlong : most < 0 ∨ most < (n : Int)
    · rw [textOf_long hsc hlong]
      clear hsc
      by_cases hneg : most < 0
      · clear hlong
        go_enter Tryz.func264, Tryz.ntmps264
        go_wp2_with (first
          | (go_at_call 261; refine (unhide HS).mono ?_; rintro e w' ⟨rfl, hw⟩; have hw := hw.symm; subst hw)
          | (go_at_call 272; refine (tell42 _ _ _ _ _ _ (unhide HC) (unhide HR)).mono ?_; rintro e w' ⟨rfl, rfl⟩))
        go_ret2
        exact ⟨rfl, Told.err (unhide HR) 22⟩
      · have hlt : most < (n : Int) := by omega
        clear hlong
        go_enter Tryz.func264, Tryz.ntmps264
        go_wp2_with (first
          | (go_at_call 261; refine (unhide HS).mono ?_; rintro e w' ⟨rfl, hw⟩; have hw := hw.symm; subst hw)
          | (go_at_call 272; refine (tell42 _ _ _ _ _ _ (unhide HC) (unhide HR)).mono ?_; rintro e w' ⟨rfl, rfl⟩))
        go_ret2
        exact ⟨rfl, Told.err (unhide HR) 22⟩
    · have hneg : ¬ most < 0 := by omega
      have hge : ¬ most < (n : Int) := by omega
      by_cases hfew : s.size - k < n
      · rw [textOf_short hsc hlong hfew]
        clear hsc hlong
        go_enter Tryz.func264, Tryz.ntmps264
        go_wp2_with (first
          | (go_at_call 261; refine (unhide HS).mono ?_; rintro e w' ⟨rfl, hw⟩; have hw := hw.symm; subst hw)
          | (go_at_call 272; refine (tell42 _ _ _ _ _ _ (unhide HC) (unhide HR)).mono ?_; rintro e w' ⟨rfl, rfl⟩))
        go_ret2
        exact ⟨rfl, Told.err (unhide HR) 20⟩
      · rw [textOf_ok hsc hlong hfew]
        clear hsc hlong
        have hsum : k + n ≤ s.size := by omega
        go_enter Tryz.func264, Tryz.ntmps264
        go_wp2_with (first
          | (go_at_call 261; refine (unhide HS).mono ?_; rintro e w' ⟨rfl, hw⟩; have hw := hw.symm; subst hw)
          | (go_at_call 176; refine (clone_any _ _ (by simp; omega)).mono ?_; rintro e w' ⟨rfl, hb⟩))
        go_ret2
        exact ⟨ret2_si (by omega), grown_below hb _, (unhide HR).below hb⟩
  · have hS' : Calls Tryz.prog 261 #[.string s, .func (.func 272) #[] #[.pointer (some ⟨c, 0, none⟩)]] w fun e w' => e = .returned (.tuple #[.int .u64 0, .int .i64 0]) ∧ w' = w.setCell ⟨r, 1, none⟩ (.int .i64 (er : Int)) := by
      refine hS.mono ?_
      rintro e w' ⟨n', k', er', h, rfl, rfl⟩
      rw [hsc] at h
      obtain ⟨rfl, rfl, rfl⟩ : 0 = n' ∧ 0 = k' ∧ er = er' := by simpa using h
      refine ⟨rfl, ?_⟩
      unfold tellW
      rw [if_neg h0]
    have HS := hide hS'
    clear hS hS'
    rw [textOf_bad most hsc h0]
    clear hsc
    go_enter Tryz.func264, Tryz.ntmps264
    go_wp2_with (go_at_call 261; refine (unhide HS).mono ?_; rintro e w' ⟨rfl, rfl⟩)
    go_ret2
    exact ⟨rfl, Told.err (unhide HR) er⟩

set_option maxRecDepth 10000 in
set_option maxHeartbeats 400000 in
theorem textClosure (c r d : Nat) (L s : ByteArray) (most : Int) (w : World) (hs : s.size ≤ 1000000) (hm : -9223372036854775808 ≤ most ∧ most ≤ 9223372036854775807) (hd : w.cell? ⟨d, 0, none⟩ = some (.int .i64 most)) (hc : w.cell? ⟨c, 0, none⟩ = some (.pointer (some ⟨r, 0, none⟩))) (hr : Rd w r L 0) :
    Calls Tryz.prog 263 #[.string s, .func (.func 272) #[] #[.pointer (some ⟨c, 0, none⟩)], .pointer (some ⟨d, 0, none⟩)] w fun e w' => e = .returned (.tuple #[.string (textOf s most).1, .int .i64 ((textOf s most).2.1 : Int)]) ∧ Told w w' r L (textOf s most).2.2 := by
  have HS := hide (textAhead42 c r L s most w hs hm hc hr)
  clear hc hr
  generalize textOf s most = T at *
  go_enter Tryz.func263, Tryz.ntmps263
  go_wp2_with (go_at_call 264; refine (unhide HS).mono ?_; rintro e w' ⟨rfl, ht⟩)
  go_ret2
  exact ⟨rfl, ht⟩
end Go.Proofs.YtlmgmdnmghgkbaaGreatDoor.L6

/- What take does: it goes on behind what stands ahead. -/
namespace Go.Proofs.YtlmgmdnmghgkbaaGreatDoor.L6
open Go.ChangeShapes Go.WideShapes Go.ChangeAt Go.RowKit

set_option maxHeartbeats 400000 in
theorem err_any (r e : Nat) (L : ByteArray) (w : World) (hr : Rd w r L e) :
    Calls Tryz.prog 247 #[.pointer (some ⟨r, 0, none⟩)] w fun x w' => x = .returned (.int .i64 (e : Int)) ∧ w' = w := by
  have h1 := hr.cell1
  clear hr
  go_enter Tryz.func247, Tryz.ntmps247
  go_wp2
  go_ret
  exact ⟨rfl, rfl⟩
theorem Rd.alloc {w : World} {r e : Nat} {L : ByteArray} (h : Rd w r L e) (o : Obj) : Rd (w.alloc o) r L e := h.below ((Below.refl _ _).alloc (Nat.le_refl _) o)
theorem Rd.drew {w : World} {r e : Nat} {L : ByteArray} (h : Rd w r L e) : Rd w.drew r L e := h.below (Below.refl _ _).drew
theorem grown_drew (w : World) (r : Option Nat) : w.grownBy w.drew r := grown_below (Below.refl _ _).drew r
theorem grown_alloc (w : World) (o : Obj) (r : Option Nat) : w.grownBy (w.alloc o) r := grown_below ((Below.refl _ _).alloc (Nat.le_refl _) o) r
/-- behind the store -/
theorem Told.left {w w' : World} {o : Obj} {r e : Nat} {L : ByteArray} (h : Told (w.alloc o) w' r L e) (L' : ByteArray) : Told w (w'.setCell ⟨r, 0, none⟩ (.string L')).drew r L' e :=
  ⟨grown_trans (grown_trans (grown_trans (grown_alloc w o _) h.1) (grown_set _ _ _ _)) (grown_drew _ _), (h.2.setLeft L').drew⟩
theorem Told.box {w w' : World} {r e : Nat} {L : ByteArray} {v : Value} {t : TypeId} (h : Told (w.alloc (.cells #[v] t)) w' r L e) (hr : r < w.heap.size) : w'.cell? ⟨w.heap.size, 0, none⟩ = some v :=
  World.grownBy.cell h.1 (by simp) (by simp; omega)

set_option maxRecDepth 10000 in
set_option maxHeartbeats 1000000 in
theorem take_err_u8 (v : Value) (r e : Nat) (L : ByteArray) (w : World) (hr : Rd w r L e) (h0 : e ≠ 0) :
    Calls Tryz.prog 235 #[.pointer (some ⟨r, 0, none⟩), v] w fun x w' => x = .returned (.int .u8 0) ∧ Told w w' r L e := by
  have HE := hide (err_any r e L _ (hr.alloc (.cells #[.pointer (some ⟨r, 0, none⟩)] 293)))
  have HR := hide hr
  clear hr
  have hne : ((e : Int) == 0) = false := beq_eq_false_iff_ne.2 (by omega)
  have hne2 : ((e : Int) != 0) = true := bne_iff_ne.2 (by omega)
  clear h0
  go_enter Tryz.func235, Tryz.ntmps235
  go_wp2_with (go_at_call 247; refine (unhide HE).mono ?_; rintro x w' ⟨rfl, rfl⟩)
  go_ret
  exact ⟨rfl, grown_alloc _ _ _, (unhide HR).alloc _⟩
set_option maxRecDepth 10000 in
set_option maxHeartbeats 1000000 in
theorem take_err_u64 (v : Value) (r e : Nat) (L : ByteArray) (w : World) (hr : Rd w r L e) (h0 : e ≠ 0) :
    Calls Tryz.prog 237 #[.pointer (some ⟨r, 0, none⟩), v] w fun x w' => x = .returned (.int .u64 0) ∧ Told w w' r L e := by
  have HE := hide (err_any r e L _ (hr.alloc (.cells #[.pointer (some ⟨r, 0, none⟩)] 293)))
  have HR := hide hr
  clear hr
  have hne : ((e : Int) == 0) = false := beq_eq_false_iff_ne.2 (by omega)
  have hne2 : ((e : Int) != 0) = true := bne_iff_ne.2 (by omega)
  clear h0
  go_enter Tryz.func237, Tryz.ntmps237
  go_wp2_with (go_at_call 247; refine (unhide HE).mono ?_; rintro x w' ⟨rfl, rfl⟩)
  go_ret
  exact ⟨rfl, grown_alloc _ _ _, (unhide HR).alloc _⟩
set_option maxRecDepth 10000 in
set_option maxHeartbeats 1000000 in
theorem take_err_str (v : Value) (r e : Nat) (L : ByteArray) (w : World) (hr : Rd w r L e) (h0 : e ≠ 0) :
    Calls Tryz.prog 262 #[.pointer (some ⟨r, 0, none⟩), v] w fun x w' => x = .returned (.string ⟨#[]⟩) ∧ Told w w' r L e := by
  have HE := hide (err_any r e L _ (hr.alloc (.cells #[.pointer (some ⟨r, 0, none⟩)] 293)))
  have HR := hide hr
  clear hr
  have hne : ((e : Int) == 0) = false := beq_eq_false_iff_ne.2 (by omega)
  have hne2 : ((e : Int) != 0) = true := bne_iff_ne.2 (by omega)
  clear h0
  go_enter Tryz.func262, Tryz.ntmps262
  go_wp2_with (go_at_call 247; refine (unhide HE).mono ?_; rintro x w' ⟨rfl, rfl⟩)
  go_ret
  exact ⟨rfl, grown_alloc _ _ _, (unhide HR).alloc _⟩
set_option maxRecDepth 10000 in
set_option maxHeartbeats 1000000 in
theorem take_byte (r k er : Nat) (n : Nat) (L : ByteArray) (w : World) (hr : Rd w r L 0) (_hL : L.size ≤ 1000000) (hk : k ≤ L.size)
    (hA : Calls Tryz.prog 236 #[.string L, .func (.func 255) #[] #[.pointer (some ⟨w.heap.size, 0, none⟩)]] (w.alloc (.cells #[.pointer (some ⟨r, 0, none⟩)] 293)) fun x w' =>
      x = .returned (.tuple #[.int .u8 (n : Int), .int .i64 (k : Int)]) ∧ Told (w.alloc (.cells #[.pointer (some ⟨r, 0, none⟩)] 293)) w' r L er) :
    Calls Tryz.prog 235 #[.pointer (some ⟨r, 0, none⟩), .func (.func 236) #[] #[]] w fun x w' => x = .returned (.int .u8 (n : Int)) ∧ Told w w' r (L.extract k L.size) er := by
  have HE := hide (err_any r 0 L _ (hr.alloc (.cells #[.pointer (some ⟨r, 0, none⟩)] 293)))
  have HA := hide hA
  have hlt := hr.lt
  have hne : ¬ r = w.heap.size := by omega
  have hc0 : (w.alloc (.cells #[.pointer (some ⟨r, 0, none⟩)] 293)).cell? ⟨r, 0, none⟩ = some (.string L) := (hr.alloc _).cell0
  clear hr hA
  go_enter Tryz.func235, Tryz.ntmps235
  go_wp2_with (first
    | (go_at_call 247; refine (unhide HE).mono ?_; rintro x w' ⟨rfl, rfl⟩)
    | (go_at_call 236; refine (unhide HA).mono ?_; rintro x w' ⟨rfl, ht⟩; have hb0 := ht.2.cell0; have hf0 := ht.2.free 0; have hbx := ht.box hlt; have HT := hide ht; clear ht))
  go_region
  all_goals go_wp2
  all_goals go_ret
  all_goals exact ⟨rfl, (unhide HT).left _⟩
set_option maxRecDepth 10000 in
set_option maxHeartbeats 1000000 in
theorem take_short (r k er : Nat) (n : Nat) (L : ByteArray) (w : World) (hr : Rd w r L 0) (_hL : L.size ≤ 1000000) (hk : k ≤ L.size)
    (hA : Calls Tryz.prog 261 #[.string L, .func (.func 256) #[] #[.pointer (some ⟨w.heap.size, 0, none⟩)]] (w.alloc (.cells #[.pointer (some ⟨r, 0, none⟩)] 293)) fun x w' =>
      x = .returned (.tuple #[.int .u64 (n : Int), .int .i64 (k : Int)]) ∧ Told (w.alloc (.cells #[.pointer (some ⟨r, 0, none⟩)] 293)) w' r L er) :
    Calls Tryz.prog 237 #[.pointer (some ⟨r, 0, none⟩), .func (.func 261) #[] #[]] w fun x w' => x = .returned (.int .u64 (n : Int)) ∧ Told w w' r (L.extract k L.size) er := by
  have HE := hide (err_any r 0 L _ (hr.alloc (.cells #[.pointer (some ⟨r, 0, none⟩)] 293)))
  have HA := hide hA
  have hlt := hr.lt
  have hne : ¬ r = w.heap.size := by omega
  have hc0 : (w.alloc (.cells #[.pointer (some ⟨r, 0, none⟩)] 293)).cell? ⟨r, 0, none⟩ = some (.string L) := (hr.alloc _).cell0
  clear hr hA
  go_enter Tryz.func237, Tryz.ntmps237
  go_wp2_with (first
    | (go_at_call 247; refine (unhide HE).mono ?_; rintro x w' ⟨rfl, rfl⟩)
    | (go_at_call 261; refine (unhide HA).mono ?_; rintro x w' ⟨rfl, ht⟩; have hb0 := ht.2.cell0; have hf0 := ht.2.free 0; have hbx := ht.box hlt; have HT := hide ht; clear ht))
  go_region
  all_goals go_wp2
  all_goals go_ret
  all_goals exact ⟨rfl, (unhide HT).left _⟩
set_option maxRecDepth 10000 in
set_option maxHeartbeats 1000000 in
theorem take_text (r k er : Nat) (n : ByteArray) (L : ByteArray) (w : World) (d : Nat) (hr : Rd w r L 0) (_hL : L.size ≤ 1000000) (hk : k ≤ L.size)
    (hA : Calls Tryz.prog 263 #[.string L, .func (.func 272) #[] #[.pointer (some ⟨w.heap.size, 0, none⟩)], .pointer (some ⟨d, 0, none⟩)] (w.alloc (.cells #[.pointer (some ⟨r, 0, none⟩)] 293)) fun x w' =>
      x = .returned (.tuple #[.string n, .int .i64 (k : Int)]) ∧ Told (w.alloc (.cells #[.pointer (some ⟨r, 0, none⟩)] 293)) w' r L er) :
    Calls Tryz.prog 262 #[.pointer (some ⟨r, 0, none⟩), .func (.func 263) #[] #[.pointer (some ⟨d, 0, none⟩)]] w fun x w' => x = .returned (.string n) ∧ Told w w' r (L.extract k L.size) er := by
  have HE := hide (err_any r 0 L _ (hr.alloc (.cells #[.pointer (some ⟨r, 0, none⟩)] 293)))
  have HA := hide hA
  have hlt := hr.lt
  have hne : ¬ r = w.heap.size := by omega
  have hc0 : (w.alloc (.cells #[.pointer (some ⟨r, 0, none⟩)] 293)).cell? ⟨r, 0, none⟩ = some (.string L) := (hr.alloc _).cell0
  clear hr hA
  go_enter Tryz.func262, Tryz.ntmps262
  go_wp2_with (first
    | (go_at_call 247; refine (unhide HE).mono ?_; rintro x w' ⟨rfl, rfl⟩)
    | (go_at_call 263; refine (unhide HA).mono ?_; rintro x w' ⟨rfl, ht⟩; have hb0 := ht.2.cell0; have hf0 := ht.2.free 0; have hbx := ht.box hlt; have HT := hide ht; clear ht))
  go_region
  all_goals go_wp2
  all_goals go_ret
  all_goals exact ⟨rfl, (unhide HT).left _⟩
end Go.Proofs.YtlmgmdnmghgkbaaGreatDoor.L6

/- What a reader of package pack answers, call by call. -/
namespace Go.Proofs.YtlmgmdnmghgkbaaGreatDoor.L6
open Go.ChangeShapes Go.WideShapes Go.ChangeAt Go.RowKit

/-- THE DOCUMENT's: the answer, what is left, the error -/
def byteR (L : ByteArray) (e : Nat) : Nat × ByteArray × Nat :=
  if e ≠ 0 then (0, L, e) else if L.size = 0 then (0, L, 20) else ((bn L).getD 0 0, L.extract 1 L.size, 0)
def shortR (L : ByteArray) (e : Nat) : Nat × ByteArray × Nat :=
  if e ≠ 0 then (0, L, e) else ((Pk.scan (bn L)).1, L.extract (Pk.scan (bn L)).2.1 L.size, (Pk.scan (bn L)).2.2)
def textR (L : ByteArray) (e : Nat) (most : Int) : ByteArray × ByteArray × Nat :=
  if e ≠ 0 then (⟨#[]⟩, L, e) else ((textOf L most).1, L.extract (textOf L most).2.1 L.size, (textOf L most).2.2)
def leftR (L : ByteArray) (e : Nat) : Nat := if e ≠ 0 then 0 else L.size
def endR (L : ByteArray) (e : Nat) : Nat := if e ≠ 0 then e else if L.size = 0 then 0 else 22

theorem ext0 (L : ByteArray) : L.extract 0 L.size = L := by
  apply ByteArray.ext
  simp
theorem byte0 (L : ByteArray) (h : 0 < L.size) : (bn L).getD 0 0 = L[0].toNat := by
  rw [List.getD_eq_getElem?_getD, bn_at L 0 h]
  rfl
theorem textOf_le (L : ByteArray) (most : Int) : (textOf L most).2.1 ≤ L.size := by
  rcases scan_cases L with ⟨n, k, hsc, _, _, _, hks, _, _⟩ | ⟨er, hsc, h0, _, _⟩
  · by_cases h1 : most < 0 ∨ most < (n : Int)
    · rw [textOf_long hsc h1]; exact Nat.zero_le _
    · by_cases h2 : L.size - k < n
      · rw [textOf_short hsc h1 h2]; exact Nat.zero_le _
      · rw [textOf_ok hsc h1 h2]
        show k + n ≤ _
        omega
  · rw [textOf_bad most hsc h0]; exact Nat.zero_le _
theorem scan_le (L : ByteArray) : (Pk.scan (bn L)).2.1 ≤ L.size := by
  rcases scan_cases L with ⟨n, k, hsc, _, _, _, hks, _, _⟩ | ⟨er, hsc, h0, _, _⟩
  · rw [hsc]; exact hks
  · rw [hsc]; exact Nat.zero_le _

set_option maxHeartbeats 400000 in
theorem read_any (s : ByteArray) (w : World) :
    Calls Tryz.prog 185 #[.string s] w fun x w' => x = .returned (.pointer (some ⟨w.heap.size, 0, none⟩)) ∧ w' = w.alloc (.cells #[.string s, .int .i64 0] 332) := by
  go_enter Tryz.func185, Tryz.ntmps185
  go_wp2
  go_ret
  exact ⟨rfl, rfl⟩
theorem Rd.new (w : World) (s : ByteArray) : Rd (w.alloc (.cells #[.string s, .int .i64 0] 332)) w.heap.size s 0 := heap_alloc_new w _

theorem box_cell (w : World) (v : Value) (t : TypeId) : (w.alloc (.cells #[v] t)).cell? ⟨w.heap.size, 0, none⟩ = some v := by simp

/- Byte -/
theorem takeByte_any (r e : Nat) (L : ByteArray) (w : World) (hr : Rd w r L e) (hL : L.size ≤ 1000000) :
    Calls Tryz.prog 235 #[.pointer (some ⟨r, 0, none⟩), .func (.func 236) #[] #[]] w fun x w' => x = .returned (.int .u8 ((byteR L e).1 : Int)) ∧ Told w w' r (byteR L e).2.1 (byteR L e).2.2 := by
  by_cases he : e ≠ 0
  · unfold byteR
    rw [if_pos he]
    exact take_err_u8 _ r e L w hr he
  · obtain rfl : e = 0 := by omega
    unfold byteR
    rw [if_neg he]
    by_cases h0 : L.size = 0
    · rw [if_pos h0]
      have h := take_byte r 0 20 0 L w hr hL (Nat.zero_le _) ((byteAhead_none w.heap.size r 0 L L _ h0 (box_cell _ _ _) (hr.alloc _)).mono (by rintro x w' ⟨rfl, rfl⟩; exact ⟨rfl, Told.err (hr.alloc _) 20⟩))
      rw [ext0] at h
      exact h
    · rw [if_neg h0]
      have hp : 0 < L.size := by omega
      have h := take_byte r 1 0 (L[0].toNat) L w hr hL hp ((byteAhead_some _ L _ hp).mono (by rintro x w' ⟨rfl, rfl⟩; exact ⟨rfl, Told.refl (hr.alloc _)⟩))
      rw [byte0 L hp]
      exact h
set_option maxHeartbeats 400000 in
theorem byte_any (r e : Nat) (L : ByteArray) (w : World) (hr : Rd w r L e) (hL : L.size ≤ 1000000) :
    Calls Tryz.prog 213 #[.pointer (some ⟨r, 0, none⟩)] w fun x w' => x = .returned (.int .u8 ((byteR L e).1 : Int)) ∧ Told w w' r (byteR L e).2.1 (byteR L e).2.2 := by
  have HT := hide (takeByte_any r e L w hr hL)
  clear hr
  generalize byteR L e = T at *
  go_enter Tryz.func213, Tryz.ntmps213
  go_wp2_with (go_at_call 235; refine (unhide HT).mono ?_; rintro x w' ⟨rfl, ht⟩)
  go_ret
  exact ⟨rfl, ht⟩
/- Fixed -/
/- Short -/
theorem takeShort_any (r e : Nat) (L : ByteArray) (w : World) (hr : Rd w r L e) (hL : L.size ≤ 1000000) :
    Calls Tryz.prog 237 #[.pointer (some ⟨r, 0, none⟩), .func (.func 261) #[] #[]] w fun x w' => x = .returned (.int .u64 ((shortR L e).1 : Int)) ∧ Told w w' r (shortR L e).2.1 (shortR L e).2.2 := by
  by_cases he : e ≠ 0
  · unfold shortR
    rw [if_pos he]
    exact take_err_u64 _ r e L w hr he
  · obtain rfl : e = 0 := by omega
    unfold shortR
    rw [if_neg he]
    refine take_short r _ _ _ L w hr hL (scan_le L) ((shortAhead41 w.heap.size r 0 L L _ (by unfold maxLen; omega) (box_cell _ _ _) (hr.alloc _)).mono ?_)
    rintro x w' ⟨n, k, er, h, rfl, rfl⟩
    rw [h]
    exact ⟨rfl, Told.tell (hr.alloc _) er⟩
set_option maxHeartbeats 400000 in
theorem rshort_any (r e : Nat) (L : ByteArray) (w : World) (hr : Rd w r L e) (hL : L.size ≤ 1000000) :
    Calls Tryz.prog 246 #[.pointer (some ⟨r, 0, none⟩)] w fun x w' => x = .returned (.int .u64 ((shortR L e).1 : Int)) ∧ Told w w' r (shortR L e).2.1 (shortR L e).2.2 := by
  have HT := hide (takeShort_any r e L w hr hL)
  clear hr
  generalize shortR L e = T at *
  go_enter Tryz.func246, Tryz.ntmps246
  go_wp2_with (go_at_call 237; refine (unhide HT).mono ?_; rintro x w' ⟨rfl, ht⟩)
  go_ret
  exact ⟨rfl, ht⟩
/- Text -/
theorem takeText_any (r e d : Nat) (L : ByteArray) (most : Int) (w : World) (hr : Rd w r L e) (hL : L.size ≤ 1000000) (hm : -9223372036854775808 ≤ most ∧ most ≤ 9223372036854775807) (hd : w.cell? ⟨d, 0, none⟩ = some (.int .i64 most)) :
    Calls Tryz.prog 262 #[.pointer (some ⟨r, 0, none⟩), .func (.func 263) #[] #[.pointer (some ⟨d, 0, none⟩)]] w fun x w' => x = .returned (.string (textR L e most).1) ∧ Told w w' r (textR L e most).2.1 (textR L e most).2.2 := by
  by_cases he : e ≠ 0
  · unfold textR
    rw [if_pos he]
    exact take_err_str _ r e L w hr he
  · obtain rfl : e = 0 := by omega
    unfold textR
    rw [if_neg he]
    have hd' : (w.alloc (.cells #[.pointer (some ⟨r, 0, none⟩)] 293)).cell? ⟨d, 0, none⟩ = some (.int .i64 most) :=
      (((Below.refl w.heap.size w).alloc (Nat.le_refl _) _).cell (World.block_lt_of_cell? w ⟨d, 0, none⟩ hd)).trans hd
    exact take_text r _ _ _ L w d hr hL (textOf_le L most) (textClosure w.heap.size r d L L most _ hL hm hd' (box_cell _ _ _) (hr.alloc _))
theorem Told.boxed {w w' : World} {o : Obj} {r e : Nat} {L : ByteArray} (h : Told (w.alloc o) w' r L e) : Told w w' r L e := ⟨grown_trans (grown_alloc w o _) h.1, h.2⟩
set_option maxHeartbeats 400000 in
theorem rtext_any (r e : Nat) (L : ByteArray) (most : Int) (w : World) (hr : Rd w r L e) (hL : L.size ≤ 1000000) (hm : -9223372036854775808 ≤ most ∧ most ≤ 9223372036854775807) :
    Calls Tryz.prog 248 #[.pointer (some ⟨r, 0, none⟩), .int .i64 most] w fun x w' => x = .returned (.string (textR L e most).1) ∧ Told w w' r (textR L e most).2.1 (textR L e most).2.2 := by
  have HT := hide (takeText_any r e w.heap.size L most (w.alloc (.cells #[.int .i64 most] 3)) (hr.alloc _) hL hm (box_cell _ _ _))
  clear hr
  generalize textR L e most = T at *
  go_enter Tryz.func248, Tryz.ntmps248
  go_wp2_with (go_at_call 262; refine (unhide HT).mono ?_; rintro x w' ⟨rfl, ht⟩)
  go_ret
  exact ⟨rfl, ht.boxed⟩
/- Left -/
/- End -/
end Go.Proofs.YtlmgmdnmghgkbaaGreatDoor.L6
