/- Texts that the proof needs, one behind the other. -/
import Derived.Test.YtdelobaiicoogaaGreatDoorMaf
import Derived.BigQuiet
import Derived.Test.YtdelobaiicoogaaGreatDoorMae
import Derived.Deep.RegionHeld3
import Derived.Deep.AppendLies
/- The text that a writer has. -/
namespace Go.Proofs.YtdelobaiicoogaaGreatDoor.L6
open Go.ChangeShapes Go.WideShapes Go.ChangeAt Go.RowKit

def Txt (B r c : Nat) (a : Option Addr) (cap : Nat) (l : List Nat) (w w' : World) : Prop := Below w.heap.size w w' ∧ Own B w' (.slice a l.length cap) l ∧ w'.cell? ⟨r, 0, none⟩ = some (.int .i64 (c : Int)) ∧ w'.cell? ⟨r, 1, none⟩ = some (.slice a l.length cap)
theorem Txt.then {B r c : Nat} {a : Option Addr} {cap : Nat} {l : List Nat} {w w1 w2 : World} (h : Txt B r c a cap l w w1) (hb : Below w1.heap.size w1 w2) : Txt B r c a cap l w w2 :=
  ⟨below_then h.1 hb, h.2.1.below hb, cell_keep h.2.2.1 hb, cell_keep h.2.2.2 hb⟩
theorem one_conv (w : World) (m : Int) : (convert 140 9 (.slice (some ⟨w.heap.size, 0, none⟩) 1 1)).run Tryz.prog (w.alloc (.cells #[.int .u8 m] 5)) = .ok (.string (strOfNums [m])) (w.alloc (.cells #[.int .u8 m] 5)) :=
  run_convert_bytes_arg _ 140 5 Tryz.underlying140 Tryz.underlying5 w.heap.size 0 1 1 [m] (by simp) (fun i hi => by
    obtain rfl : i = 0 := by simp at hi; omega
    simp) 9 Tryz.underlying9
theorem one_conv_drew (w : World) (m : Int) : (convert 140 9 (.slice (some ⟨w.heap.size, 0, none⟩) 1 1)).run Tryz.prog (w.alloc (.cells #[.int .u8 m] 5)).drew = .ok (.string (strOfNums [m])) (w.alloc (.cells #[.int .u8 m] 5)).drew := one_conv w.drew m
theorem conv_kept1 {w w2 : World} {m : Int} (hb : Below ((w.alloc (.cells #[.int .u8 m] 5)).drew).heap.size (w.alloc (.cells #[.int .u8 m] 5)).drew w2) :
    (convert 140 9 (.slice (some ⟨w.heap.size, 0, none⟩) 1 1)).run Tryz.prog w2 = .ok (.string (strOfNums [m])) w2 :=
  run_convert_bytes_arg _ 140 5 Tryz.underlying140 Tryz.underlying5 w.heap.size 0 1 1 [m] (by simp) (fun i hi => by
    rw [hb.cell (p := ⟨w.heap.size, 0 + i, none⟩) (by simp)]
    obtain rfl : i = 0 := by simp at hi; omega
    simp) 9 Tryz.underlying9
theorem ret_str {s t : ByteArray} (h : s = t) : Ending.returned (.string s) = .returned (.string t) := by rw [h]

set_option maxRecDepth 10000 in
set_option maxHeartbeats 4000000 in
theorem wtext_any (B r c m : Nat) (l : List Nat) (w : World) (h : Wr B w r c l) (_hm : m < 256) (hc : c ≤ 1000000) (hl : l.length ≤ 900000) :
    Calls Tryz.prog 96 #[.pointer (some ⟨r, 0, none⟩), .int .u8 (m : Int)] w fun e w' => e = .returned (.string (strOf (m :: (Pk.shL c ++ l)))) ∧ Below w.heap.size w w' := by
  obtain ⟨hB, v, hb, ho⟩ := h
  obtain ⟨a, cap, rfl⟩ := ho.shape
  have HX : Txt B r c a cap l w w := ⟨Below.refl _ _, ho, two_cell0 hb, two_cell1 hb⟩
  have hw : IntKind.u64.wrap (c : Int) = (c : Int) := by rw [IntKind.wrap_u64]; omega
  have hF := fun W => short_any (c : Int) W (by omega)
  rw [Int.toNat_natCast] at hF
  have HF := hide hF
  have hcv := one_conv
  have hcv2 := one_conv_drew
  have hz := strOf_size (Pk.shL c)
  have hz2 := Pk.shL_le c
  have HE : Hid (strOfNums [(m : Int)] ++ strOf (Pk.shL c) ++ strOf l = strOf (m :: (Pk.shL c ++ l))) := by
    show _ = _
    have : m :: (Pk.shL c ++ l) = [m] ++ Pk.shL c ++ l := by simp
    rw [this, strOf_append, strOf_append]
    rfl
  have r1 := add_run' (strOfNums [(m : Int)]) (strOf (Pk.shL c)) (by rw [strOfNums_size]; show 1 + _ ≤ _; omega)
  have r2 := add_run' (strOfNums [(m : Int)] ++ strOf (Pk.shL c)) (strOf l) (by rw [ByteArray.size_append, strOfNums_size, strOf_size l]; show 1 + _ + _ ≤ _; omega)
  clear hF hb ho hz hz2
  go_enter Tryz.func96, Tryz.ntmps96
  go_wp2_with fail
  refine wp_region_noPanic ?_
  refine wp_region_held_drew (S := fun w' => Below w.heap.size w w' ∧ Own B w' (.slice a l.length cap) l ∧ w'.cell? ⟨r, 0, none⟩ = some (.int .i64 (c : Int)) ∧ w'.cell? ⟨r, 1, none⟩ = some (.slice a l.length cap)) (by kernel_rfl) (Txt.then HX (below_drew _)) (fun hHeld => ?_)
  refine takeY 0 (some 5) ?_ rfl rfl (by kernel_rfl) (by kernel_rfl) (by kernel_rfl) (fun _ _ _ h => h) (by rfl) ?_ hHeld ?_
  rotate_left
  · intro w hSw; (try dsimp only at hSw); go_simp <;> with_reducible rfl
  simp only [Act.put, List.setIfInBounds_toArray, List.set_cons_zero, List.set_cons_succ]
  refine takeY 3 (some 8) ?_ rfl rfl (by kernel_rfl) (by kernel_rfl) (by kernel_rfl) (fun _ _ _ h => h) (by rfl) ?_ hHeld ?_
  rotate_left
  · intro w hSw; (try dsimp only at hSw); go_simp <;> with_reducible rfl
  simp only [Act.put, List.setIfInBounds_toArray, List.set_cons_zero, List.set_cons_succ]
  refine takeY 4 (some 9) ?_ rfl rfl (by kernel_rfl) (by kernel_rfl) (by kernel_rfl) (fun _ _ _ h => h) (by rfl) ?_ hHeld ?_
  rotate_left
  · intro w hSw; (try dsimp only at hSw); go_simp <;> with_reducible rfl
  simp only [Act.put, List.setIfInBounds_toArray, List.set_cons_zero, List.set_cons_succ]
  refine takeY 5 (some 10) ?_ rfl rfl (by kernel_rfl) (by kernel_rfl) (by kernel_rfl) (fun _ _ _ h => h) (by rfl) ?_ hHeld ?_
  rotate_left
  · intro w hSw; (try dsimp only at hSw); go_simp <;> with_reducible rfl
  simp only [Act.put, List.setIfInBounds_toArray, List.set_cons_zero, List.set_cons_succ]
  refine takeY 6 (some 11) ?_ rfl rfl (by kernel_rfl) (by kernel_rfl) (by kernel_rfl) (fun _ _ _ h => h) (by rfl) ?_ hHeld ?_
  rotate_left
  · intro w hSw; (try dsimp only at hSw); go_simp <;> with_reducible rfl
  simp only [Act.put, List.setIfInBounds_toArray, List.set_cons_zero, List.set_cons_succ]
  refine takeY 7 (some 12) ?_ rfl rfl (by kernel_rfl) (by kernel_rfl) (by kernel_rfl) (fun _ _ _ h => h) (by rfl) ?_ hHeld ?_
  rotate_left
  · intro w hSw; (try dsimp only at hSw); go_simp <;> with_reducible rfl
  simp only [Act.put, List.setIfInBounds_toArray, List.set_cons_zero, List.set_cons_succ]
  refine takeY 10 (some 15) ?_ rfl rfl (by kernel_rfl) (by kernel_rfl) (by kernel_rfl) (fun _ _ _ h => h) (by rfl) ?_ hHeld ?_
  rotate_left
  · intro w hSw; (try dsimp only at hSw); go_simp <;> with_reducible rfl
  simp only [Act.put, List.setIfInBounds_toArray, List.set_cons_zero, List.set_cons_succ]
  refine takeY 11 (some 16) ?_ rfl rfl (by kernel_rfl) (by kernel_rfl) (by kernel_rfl) (fun _ _ _ h => h) (by rfl) ?_ hHeld ?_
  rotate_left
  · intro w hSw; (try dsimp only at hSw); go_simp <;> with_reducible rfl
  simp only [Act.put, List.setIfInBounds_toArray, List.set_cons_zero, List.set_cons_succ]
  refine takeY 12 (some 17) ?_ rfl rfl (by kernel_rfl) (by kernel_rfl) (by kernel_rfl) (fun _ _ _ h => h) (by rfl) ?_ hHeld ?_
  rotate_left
  · intro w hSw; (try dsimp only at hSw); go_simp <;> with_reducible rfl
  simp only [Act.put, List.setIfInBounds_toArray, List.set_cons_zero, List.set_cons_succ]
  refine takeY 13 (some 18) ?_ rfl rfl (by kernel_rfl) (by kernel_rfl) (by kernel_rfl) (fun _ _ _ h => h) (by rfl) ?_ hHeld ?_
  rotate_left
  · intro w hSw; (try dsimp only at hSw); go_simp <;> with_reducible rfl
  simp only [Act.put, List.setIfInBounds_toArray, List.set_cons_zero, List.set_cons_succ]
  refine takeY 14 (some 19) ?_ rfl rfl (by kernel_rfl) (by kernel_rfl) (by kernel_rfl) (fun _ _ _ h => h) (by rfl) ?_ hHeld ?_
  rotate_left
  · intro w hSw; (try dsimp only at hSw); (have hcq := conv_own hSw.2.1); go_simp <;> with_reducible rfl
  simp only [Act.put, List.setIfInBounds_toArray, List.set_cons_zero, List.set_cons_succ]
  refine wpAnyH_ready (rs := [1, 8]) (by kernel_rfl) (by simp) ?_
  refine AllReadyH.cons rfl (fun K hK => ?_) (AllReadyH.cons rfl (fun K hK => ?_) AllReadyH.nil)
  · go_simp
    refine hK.out _ _ (Txt.then hHeld (below_alloc _ _)) (fun hHeld => ?_)
    clear hK K
    try simp only [Act.put, List.setIfInBounds_toArray, List.set_cons_zero, List.set_cons_succ]
    refine wpAnyH_ready (rs := [2, 8]) (by kernel_rfl) (by simp) ?_
    refine AllReadyH.cons rfl (fun K hK => ?_) (AllReadyH.cons rfl (fun K hK => ?_) AllReadyH.nil)
    · go_simp
      refine hK.out _ _ hHeld (fun hHeld => ?_)
      clear hK K
      try simp only [Act.put, List.setIfInBounds_toArray, List.set_cons_zero, List.set_cons_succ]
      refine wpAnyH_ready (rs := [8]) (by kernel_rfl) (by simp) ?_
      refine AllReadyH.cons rfl (fun K hK => ?_) AllReadyH.nil
      go_simp
      refine (unhide HF _).mono ?_
      rintro e w2 ⟨rfl, hb2⟩
      have HX2 := Txt.then hHeld hb2
      refine hK.out _ _ HX2 (fun hHeld => ?_)
      clear hK K
      try simp only [Act.put, List.setIfInBounds_toArray, List.set_cons_zero, List.set_cons_succ]
      refine takeY 9 (some 14) ?_ rfl rfl (by kernel_rfl) (by kernel_rfl) (by kernel_rfl) (fun _ _ _ h => h) (by rfl) ?_ hHeld ?_
      rotate_left
      · intro w hSw; (try dsimp only at hSw); go_simp <;> with_reducible rfl
      simp only [Act.put, List.setIfInBounds_toArray, List.set_cons_zero, List.set_cons_succ]
      refine takeY 15 (some 20) ?_ rfl rfl (by kernel_rfl) (by kernel_rfl) (by kernel_rfl) (fun _ _ _ h => h) (by rfl) ?_ hHeld ?_
      rotate_left
      · intro w hSw; (try dsimp only at hSw); go_simp <;> with_reducible rfl
      simp only [Act.put, List.setIfInBounds_toArray, List.set_cons_zero, List.set_cons_succ]
      refine takeY 16 (some 4) ?_ rfl rfl (by kernel_rfl) (by kernel_rfl) (by kernel_rfl) (fun _ _ _ h => h) (by rfl) ?_ hHeld ?_
      rotate_left
      · intro w hSw; (try dsimp only at hSw); go_simp <;> with_reducible rfl
      simp only [Act.put, List.setIfInBounds_toArray, List.set_cons_zero, List.set_cons_succ]
      refine wpAnyH_done (by kernel_rfl) ?_ _
      refine NoPanic.normal ?_
      have HB := hide hHeld.1
      clear hHeld
      go_wp2
      go_ret
      exact ⟨ret_str (unhide HE), unhide HB⟩
    · go_simp
      refine (unhide HF _).mono ?_
      rintro e w2 ⟨rfl, hb2⟩
      have HX2 := Txt.then hHeld hb2
      have hc2 := conv_kept1 hb2
      refine hK.out _ _ HX2 (fun hHeld => ?_)
      clear hK K
      try simp only [Act.put, List.setIfInBounds_toArray, List.set_cons_zero, List.set_cons_succ]
      refine wpAnyH_ready (rs := [2]) (by kernel_rfl) (by simp) ?_
      refine AllReadyH.cons rfl (fun K hK => ?_) AllReadyH.nil
      go_simp
      refine hK.out _ _ hHeld (fun hHeld => ?_)
      clear hK K
      try simp only [Act.put, List.setIfInBounds_toArray, List.set_cons_zero, List.set_cons_succ]
      refine takeY 9 (some 14) ?_ rfl rfl (by kernel_rfl) (by kernel_rfl) (by kernel_rfl) (fun _ _ _ h => h) (by rfl) ?_ hHeld ?_
      rotate_left
      · intro w hSw; (try dsimp only at hSw); go_simp <;> with_reducible rfl
      simp only [Act.put, List.setIfInBounds_toArray, List.set_cons_zero, List.set_cons_succ]
      refine takeY 15 (some 20) ?_ rfl rfl (by kernel_rfl) (by kernel_rfl) (by kernel_rfl) (fun _ _ _ h => h) (by rfl) ?_ hHeld ?_
      rotate_left
      · intro w hSw; (try dsimp only at hSw); go_simp <;> with_reducible rfl
      simp only [Act.put, List.setIfInBounds_toArray, List.set_cons_zero, List.set_cons_succ]
      refine takeY 16 (some 4) ?_ rfl rfl (by kernel_rfl) (by kernel_rfl) (by kernel_rfl) (fun _ _ _ h => h) (by rfl) ?_ hHeld ?_
      rotate_left
      · intro w hSw; (try dsimp only at hSw); go_simp <;> with_reducible rfl
      simp only [Act.put, List.setIfInBounds_toArray, List.set_cons_zero, List.set_cons_succ]
      refine wpAnyH_done (by kernel_rfl) ?_ _
      refine NoPanic.normal ?_
      have HB := hide hHeld.1
      clear hHeld
      go_wp2
      go_ret
      exact ⟨ret_str (unhide HE), unhide HB⟩
  · go_simp
    refine (unhide HF _).mono ?_
    rintro e w2 ⟨rfl, hb2⟩
    have HX2 := Txt.then hHeld hb2
    refine hK.out _ _ HX2 (fun hHeld => ?_)
    clear hK K
    try simp only [Act.put, List.setIfInBounds_toArray, List.set_cons_zero, List.set_cons_succ]
    refine wpAnyH_ready (rs := [1]) (by kernel_rfl) (by simp) ?_
    refine AllReadyH.cons rfl (fun K hK => ?_) AllReadyH.nil
    go_simp
    refine hK.out _ _ (Txt.then hHeld (below_alloc _ _)) (fun hHeld => ?_)
    clear hK K
    try simp only [Act.put, List.setIfInBounds_toArray, List.set_cons_zero, List.set_cons_succ]
    refine wpAnyH_ready (rs := [2]) (by kernel_rfl) (by simp) ?_
    refine AllReadyH.cons rfl (fun K hK => ?_) AllReadyH.nil
    go_simp
    refine hK.out _ _ hHeld (fun hHeld => ?_)
    clear hK K
    try simp only [Act.put, List.setIfInBounds_toArray, List.set_cons_zero, List.set_cons_succ]
    refine takeY 9 (some 14) ?_ rfl rfl (by kernel_rfl) (by kernel_rfl) (by kernel_rfl) (fun _ _ _ h => h) (by rfl) ?_ hHeld ?_
    rotate_left
    · intro w hSw; (try dsimp only at hSw); go_simp <;> with_reducible rfl
    simp only [Act.put, List.setIfInBounds_toArray, List.set_cons_zero, List.set_cons_succ]
    refine takeY 15 (some 20) ?_ rfl rfl (by kernel_rfl) (by kernel_rfl) (by kernel_rfl) (fun _ _ _ h => h) (by rfl) ?_ hHeld ?_
    rotate_left
    · intro w hSw; (try dsimp only at hSw); go_simp <;> with_reducible rfl
    simp only [Act.put, List.setIfInBounds_toArray, List.set_cons_zero, List.set_cons_succ]
    refine takeY 16 (some 4) ?_ rfl rfl (by kernel_rfl) (by kernel_rfl) (by kernel_rfl) (fun _ _ _ h => h) (by rfl) ?_ hHeld ?_
    rotate_left
    · intro w hSw; (try dsimp only at hSw); go_simp <;> with_reducible rfl
    simp only [Act.put, List.setIfInBounds_toArray, List.set_cons_zero, List.set_cons_succ]
    refine wpAnyH_done (by kernel_rfl) ?_ _
    refine NoPanic.normal ?_
    have HB := hide hHeld.1
    clear hHeld
    go_wp2
    go_ret
    exact ⟨ret_str (unhide HE), unhide HB⟩
end Go.Proofs.YtdelobaiicoogaaGreatDoor.L6

/- Whether a node is right, as the program tells it. -/
namespace Go.Proofs.YtdelobaiicoogaaGreatDoor.L6
open Go.ChangeShapes Go.WideShapes Go.ChangeAt Go.RowKit

theorem len_zero {α : Type} {l : List α} (h : l.length = 0) : l.isEmpty = true := by
  rw [List.isEmpty_iff]
  exact List.length_eq_zero_iff.1 h
theorem len_some {α : Type} {l : List α} (h : 0 < l.length) : l.isEmpty = false := by
  cases l with
  | nil => simp at h
  | cons _ _ => rfl

set_option maxRecDepth 10000 in
set_option maxHeartbeats 2000000 in
theorem isRight_any (n : Nd) (ai ak : Option Addr) (ci ck : Nat) (w : World) (hn : Has w n ai ak) (hil : n.its.length ≤ 1000000) (hkl : n.kds.length ≤ 1000000) :
    Calls Tryz.prog 128 #[.agg #[.bool n.leaf, .slice ai n.its.length ci, .slice ak n.kds.length ck]] w fun e w' => e = .returned (.bool (rightB n)) ∧ Below w.heap.size w w' := by
  obtain ⟨L, its, kds⟩ := n
  simp only at hil hkl
  have hb0 := below_alloc w (.cells #[.bool L, .slice ai its.length ci, .slice ak kds.length ck] 38)
  have HI := hide (areRightI_any ai ci its _ (hn.1.grow hb0) hil)
  have HK := hide (areRightK_any ak ck kds _ (hn.2.grow hb0) hkl)
  have HB := hide hb0
  clear hn hb0
  cases L with
  | true =>
    by_cases h0 : kds.length = 0
    · have e : rightB ⟨true, its, kds⟩ = (!its.isEmpty && rise mayI none its) := by simp [rightB, len_zero h0]
      rw [e]
      have e0 : ((kds.length : Int) == 0) = true := beq_iff_eq.2 (by omega)
      clear e h0
      go_enter Tryz.func128, Tryz.ntmps128
      go_wp2_with (go_at_call 160; refine (unhide HI).mono ?_; rintro x w2 ⟨rfl, hb⟩)
      go_ret
      exact ⟨rfl, below_then (unhide HB) hb⟩
    · have e : rightB ⟨true, its, kds⟩ = false := by simp [rightB, len_some (Nat.pos_of_ne_zero h0)]
      rw [e]
      have e0 : ((kds.length : Int) == 0) = false := beq_eq_false_iff_ne.2 (by omega)
      clear e h0
      go_enter Tryz.func128, Tryz.ntmps128
      go_wp2
      go_ret
      exact ⟨rfl, unhide HB⟩
  | false =>
    by_cases h0 : its.length = 0
    · have e : rightB ⟨false, its, kds⟩ = (!kds.isEmpty && rise mayK none kds) := by simp [rightB, len_zero h0]
      rw [e]
      have e0 : ((its.length : Int) == 0) = true := beq_iff_eq.2 (by omega)
      clear e h0
      go_enter Tryz.func128, Tryz.ntmps128
      go_wp2_with (go_at_call 162; refine (unhide HK).mono ?_; rintro x w2 ⟨rfl, hb⟩)
      go_ret
      exact ⟨rfl, below_then (unhide HB) hb⟩
    · have e : rightB ⟨false, its, kds⟩ = false := by simp [rightB, len_some (Nat.pos_of_ne_zero h0)]
      rw [e]
      have e0 : ((its.length : Int) == 0) = false := beq_eq_false_iff_ne.2 (by omega)
      clear e h0
      go_enter Tryz.func128, Tryz.ntmps128
      go_wp2
      go_ret
      exact ⟨rfl, unhide HB⟩
end Go.Proofs.YtdelobaiicoogaaGreatDoor.L6

/- A node's bytes, its size, its check, as the program has them. -/
namespace Go.Proofs.YtdelobaiicoogaaGreatDoor.L6
open Go.ChangeShapes Go.WideShapes Go.ChangeAt Go.RowKit

theorem rise_all {β : Type} {may : ByteArray × β → Bool} (l : List (ByteArray × β)) (p : Option ByteArray) (h : rise may p l = true) : ∀ x ∈ l, may x = true := by
  induction l generalizing p with
  | nil => intro x hx; cases hx
  | cons y t ih =>
    have : may y = true ∧ rise may (some y.1) t = true := by
      cases p <;> simp [rise] at h
      · exact h
      · exact ⟨h.1.1, h.2⟩
    intro x hx
    rcases List.mem_cons.1 hx with rfl | hx
    · exact this.1
    · exact ih _ this.2 x hx
theorem flat_le {α : Type} {f : α → List Nat} {m : Nat} (l : List α) (h : ∀ x ∈ l, (f x).length ≤ m) : (l.flatMap f).length ≤ l.length * m := by
  induction l with
  | nil => simp
  | cons y t ih =>
    rw [List.flatMap_cons, List.length_append, List.length_cons, Nat.add_mul]
    have h1 := h y List.mem_cons_self
    have h2 := ih (fun x hx => h x (List.mem_cons_of_mem _ hx))
    omega
theorem itL_le {x : It} (h : mayI x = true) : (itL x).length ≤ 452 := by
  simp [mayI] at h
  unfold itL
  rw [List.length_append]
  have h1 := txL_length x.1
  have h2 := txL_length x.2
  omega
theorem kdL_le {x : Kd} (h : mayK x = true) : (kdL x).length ≤ 452 := by
  simp [mayK] at h
  unfold kdL
  rw [List.length_append]
  have h1 := txL_length x.1
  have h2 := Pk.shL_le x.2.toNat
  omega
theorem mayK_place {x : Kd} (h : mayK x = true) : 0 ≤ x.2 ∧ x.2 < 9223372036854775808 := by
  simp [mayK] at h
  omega
theorem right_leaf {its : List It} {kds : List Kd} (h : rightB ⟨true, its, kds⟩ = true) : kds = [] ∧ its ≠ [] ∧ rise mayI none its = true := by
  simp [rightB] at h
  exact ⟨h.1.1, h.1.2, h.2⟩
theorem right_kids {its : List It} {kds : List Kd} (h : rightB ⟨false, its, kds⟩ = true) : its = [] ∧ kds ≠ [] ∧ rise mayK none kds = true := by
  simp [rightB] at h
  exact ⟨h.1.1, h.1.2, h.2⟩
theorem below_step {w w1 w2 w3 : World} {B : Nat} (h : Below w.heap.size w w1) (h1 : Below w1.heap.size w1 w2) (h2 : Below B w2 w3) (hB : w.heap.size ≤ B) : Below w.heap.size w w3 :=
  (below_then h h1).trans (h2.mono hB)
theorem Wr.new (w : World) : Wr w.heap.size (w.alloc (.cells #[.int .i64 0, .slice none 0 0] 213)) w.heap.size 0 [] :=
  ⟨Nat.le_refl _, .slice none 0 0, heap_alloc_new w _, World.ownsRow_nil _ _ _ _⟩
theorem new_low (w : World) (o : Obj) : ∀ k, k < (w.alloc o).heap.size → k ≠ w.heap.size → k < w.heap.size := by
  intro k hk hne
  simp at hk
  omega

set_option maxRecDepth 10000 in
set_option maxHeartbeats 2000000 in
theorem bytesOf_any (n : Nd) (ai ak : Option Addr) (ci ck : Nat) (w : World) (hn : Has w n ai ak) (hr : rightB n = true) (hil : n.its.length ≤ 1100) (hkl : n.kds.length ≤ 1100) :
    Calls Tryz.prog 57 #[.agg #[.bool n.leaf, .slice ai n.its.length ci, .slice ak n.kds.length ck]] w fun e w' => e = .returned (.string (strOf (ndL n))) ∧ Below w.heap.size w w' := by
  obtain ⟨L, its, kds⟩ := n
  simp only at hil hkl
  have hmf : ∀ (fn : Fn) (first cap : Array Value) (w : World), (Instr.makeFunc fn first cap).run Tryz.prog w = .ok (.func fn first cap) w := fun _ _ _ _ => rfl
  have hb0 := below_alloc w (.cells #[.bool L, .slice ai its.length ci, .slice ak kds.length ck] 38)
  have hb1 := below_alloc (w.alloc (.cells #[.bool L, .slice ai its.length ci, .slice ak kds.length ck] 38)) (.cells #[.int .i64 0, .slice none 0 0] 213)
  have hw := Wr.new (w.alloc (.cells #[.bool L, .slice ai its.length ci, .slice ak kds.length ck] 38))
  have hlow := new_low (w.alloc (.cells #[.bool L, .slice ai its.length ci, .slice ak kds.length ck] 38)) (.cells #[.int .i64 0, .slice none 0 0] 213)
  have HB := hide (And.intro hb0 hb1)
  have hwx : (w.alloc (.cells #[.bool L, .slice ai its.length ci, .slice ak kds.length ck] 38)).heap.size = w.heap.size + 1 := by simp
  rw [hwx] at hw hlow
  cases L with
  | true =>
    obtain ⟨rfl, _, hrise⟩ := right_leaf hr
    have hfl : (its.flatMap itL).length ≤ 900000 := Nat.le_trans (flat_le its (fun x hx => itL_le (rise_all _ _ hrise x hx))) (by omega)
    have HC := hide (eachI_any _ _ ai ci its _ hw ((hn.1.grow hb0).grow hb1) hlow (by omega) hfl)
    have HT := hide (fun W (hW : Wr (w.heap.size + 1) W (w.heap.size + 1) its.length (its.flatMap itL)) => wtext_any _ _ its.length 1 _ W hW (by decide) (by omega) hfl)
    have HBX := hide hwx
    clear hn hr hrise hfl hw hlow hb0 hb1 hwx
    go_enter Tryz.func57, Tryz.ntmps57
    go_wp2_with (first
      | (go_at_call 94; refine (unhide HC).mono ?_; rintro x w3 ⟨rfl, hw3, hb3⟩)
      | (go_at_call 96; refine (unhide HT _ hw3).mono ?_; rintro x w4 ⟨rfl, hb4⟩))
    go_ret
    exact ⟨rfl, below_then (below_step (unhide HB).1 (unhide HB).2 hb3 (Nat.le_succ _)) hb4⟩
  | false =>
    obtain ⟨rfl, _, hrise⟩ := right_kids hr
    have hfl : (kds.flatMap kdL).length ≤ 900000 := Nat.le_trans (flat_le kds (fun x hx => kdL_le (rise_all _ _ hrise x hx))) (by omega)
    have HC := hide (eachK_any _ _ ak ck kds _ hw ((hn.2.grow hb0).grow hb1) hlow (fun x hx => mayK_place (rise_all _ _ hrise x hx)) (by omega) hfl)
    have HT := hide (fun W (hW : Wr (w.heap.size + 1) W (w.heap.size + 1) kds.length (kds.flatMap kdL)) => wtext_any _ _ kds.length 2 _ W hW (by decide) (by omega) hfl)
    have HBX := hide hwx
    clear hn hr hrise hfl hw hlow hb0 hb1 hwx
    go_enter Tryz.func57, Tryz.ntmps57
    go_wp2_with (first
      | (go_at_call 97; refine (unhide HC).mono ?_; rintro x w3 ⟨rfl, hw3, hb3⟩)
      | (go_at_call 96; refine (unhide HT _ hw3).mono ?_; rintro x w4 ⟨rfl, hb4⟩))
    go_ret
    exact ⟨rfl, below_then (below_step (unhide HB).1 (unhide HB).2 hb3 (Nat.le_succ _)) hb4⟩
end Go.Proofs.YtdelobaiicoogaaGreatDoor.L6

/- Size, Check, Encode, as the program answers. -/
namespace Go.Proofs.YtdelobaiicoogaaGreatDoor.L6
open Go.ChangeShapes Go.WideShapes Go.ChangeAt Go.RowKit

theorem ndL_pos (n : Nd) : 0 < (ndL n).length := by unfold ndL; split <;> simp
set_option maxRecDepth 10000 in
set_option maxHeartbeats 1000000 in
theorem size_any (n : Nd) (ai ak : Option Addr) (ci ck : Nat) (w : World) (hn : Has w n ai ak) (hil : n.its.length ≤ 1100) (hkl : n.kds.length ≤ 1100) :
    Calls Tryz.prog 93 #[.agg #[.bool n.leaf, .slice ai n.its.length ci, .slice ak n.kds.length ck]] w fun e w' => e = .returned (.int .i64 (sizeN n : Int)) ∧ Below w.heap.size w w' := by
  have hb0 := below_alloc w (.cells #[.bool n.leaf, .slice ai n.its.length ci, .slice ak n.kds.length ck] 38)
  have HB := hide hb0
  have q0 : (w.alloc (.cells #[.bool n.leaf, .slice ai n.its.length ci, .slice ak n.kds.length ck] 38)).cell? ⟨w.heap.size, 0, none⟩ = some (.bool n.leaf) := by simp
  have q1 : (w.alloc (.cells #[.bool n.leaf, .slice ai n.its.length ci, .slice ak n.kds.length ck] 38)).cell? ⟨w.heap.size, 1, none⟩ = some (.slice ai n.its.length ci) := by simp
  have q2 : (w.alloc (.cells #[.bool n.leaf, .slice ai n.its.length ci, .slice ak n.kds.length ck] 38)).cell? ⟨w.heap.size, 2, none⟩ = some (.slice ak n.kds.length ck) := by simp
  have HQ := hide (And.intro q0 (And.intro q1 q2))
  have HR := hide (isRight_any n ai ak ci ck _ (hn.grow hb0) (by omega) (by omega))
  by_cases hr : rightB n = true
  · have e : sizeN n = (strOf (ndL n)).size := by unfold sizeN; rw [if_pos hr, strOf_size]
    rw [e]
    have HN := hide hn
    rw [hr] at HR
    have HC := hide (fun W (hW : Below w.heap.size w W) => bytesOf_any n ai ak ci ck W (hn.grow hW) hr hil hkl)
    clear q0 q1 q2 hr e hn hb0
    go_enter Tryz.func93, Tryz.ntmps93
    go_wp2_with (first
      | (go_at_call 128; refine (unhide HR).mono ?_; rintro x w2 ⟨rfl, hb2⟩; have z0 := cell_keep (unhide HQ).1 hb2; have z1 := cell_keep (unhide HQ).2.1 hb2; have z2 := cell_keep (unhide HQ).2.2 hb2; have HB2 := hide (below_then (unhide HB) hb2); clear hb2)
      | (go_at_call 57; refine (unhide HC _ (unhide HB2)).mono ?_; rintro x w3 ⟨rfl, hb3⟩))
    go_ret
    exact ⟨rfl, below_then (unhide HB2) hb3⟩
  · have hr : rightB n = false := by simpa using hr
    have e : sizeN n = 0 := by unfold sizeN; rw [hr]; rfl
    rw [e]
    rw [hr] at HR
    clear q0 q1 q2 hr e hn hb0
    go_enter Tryz.func93, Tryz.ntmps93
    go_wp2_with (go_at_call 128; refine (unhide HR).mono ?_; rintro x w2 ⟨rfl, hb2⟩)
    go_ret
    exact ⟨rfl, below_then (unhide HB) hb2⟩

theorem sizeN_zero {n : Nd} (h : sizeN n = 0) : checkN n = 60 := by
  unfold sizeN at h
  unfold checkN
  split at h
  · have := ndL_pos n
    omega
  · rename_i hr
    rw [if_neg hr]
theorem sizeN_big {n : Nd} (h : 1007 < sizeN n) : checkN n = 61 := by
  unfold sizeN at h
  unfold checkN
  split at h
  · rename_i hr
    rw [if_pos hr, if_pos h]
  · omega
theorem sizeN_ok {n : Nd} (h0 : sizeN n ≠ 0) (h : ¬ 1007 < sizeN n) : checkN n = 0 := by
  unfold sizeN at h h0
  unfold checkN
  split at h
  · rename_i hr
    rw [if_pos hr, if_neg h]
  · rename_i hr
    rw [if_neg hr] at h0
    omega
theorem checkN_right {n : Nd} (h : checkN n = 0) : rightB n = true := by
  unfold checkN at h
  split at h
  · assumption
  · omega

set_option maxRecDepth 10000 in
set_option maxHeartbeats 1000000 in
theorem check_any (n : Nd) (ai ak : Option Addr) (ci ck : Nat) (w : World) (hn : Has w n ai ak) (hil : n.its.length ≤ 1100) (hkl : n.kds.length ≤ 1100) :
    Calls Tryz.prog 56 #[.agg #[.bool n.leaf, .slice ai n.its.length ci, .slice ak n.kds.length ck]] w fun e w' => e = .returned (.int .i64 (checkN n : Int)) ∧ Below w.heap.size w w' := by
  have hb0 := below_alloc w (.cells #[.bool n.leaf, .slice ai n.its.length ci, .slice ak n.kds.length ck] 38)
  have HB := hide hb0
  have HR := hide (size_any n ai ak ci ck _ (hn.grow hb0) hil hkl)
  clear hb0 hn
  by_cases h0 : sizeN n = 0
  · rw [sizeN_zero h0]
    rw [h0] at HR
    clear h0
    go_enter Tryz.func56, Tryz.ntmps56
    go_wp2_with (go_at_call 93; refine (unhide HR).mono ?_; rintro x w2 ⟨rfl, hb2⟩)
    go_ret
    exact ⟨rfl, below_then (unhide HB) hb2⟩
  · by_cases h1 : 1007 < sizeN n
    · rw [sizeN_big h1]
      generalize sizeN n = k at *
      have f0 : ((k : Int) == 0) = false := beq_eq_false_iff_ne.2 (by omega)
      go_enter Tryz.func56, Tryz.ntmps56
      go_wp2_with (go_at_call 93; refine (unhide HR).mono ?_; rintro x w2 ⟨rfl, hb2⟩)
      go_ret
      exact ⟨rfl, below_then (unhide HB) hb2⟩
    · rw [sizeN_ok h0 h1]
      generalize sizeN n = k at *
      have f0 : ((k : Int) == 0) = false := beq_eq_false_iff_ne.2 (by omega)
      go_enter Tryz.func56, Tryz.ntmps56
      go_wp2_with (go_at_call 93; refine (unhide HR).mono ?_; rintro x w2 ⟨rfl, hb2⟩)
      go_ret
      exact ⟨rfl, below_then (unhide HB) hb2⟩

set_option maxRecDepth 10000 in
set_option maxHeartbeats 1000000 in
theorem encode_any (n : Nd) (ai ak : Option Addr) (ci ck : Nat) (w : World) (hn : Has w n ai ak) (hil : n.its.length ≤ 1100) (hkl : n.kds.length ≤ 1100) :
    Calls Tryz.prog 23 #[.agg #[.bool n.leaf, .slice ai n.its.length ci, .slice ak n.kds.length ck]] w fun e w' => e = .returned (.tuple #[.string (encodeN n).1, .int .i64 ((encodeN n).2 : Int)]) ∧ Below w.heap.size w w' := by
  have hb0 := below_alloc w (.cells #[.bool n.leaf, .slice ai n.its.length ci, .slice ak n.kds.length ck] 38)
  have HB := hide hb0
  have q0 : (w.alloc (.cells #[.bool n.leaf, .slice ai n.its.length ci, .slice ak n.kds.length ck] 38)).cell? ⟨w.heap.size, 0, none⟩ = some (.bool n.leaf) := by simp
  have q1 : (w.alloc (.cells #[.bool n.leaf, .slice ai n.its.length ci, .slice ak n.kds.length ck] 38)).cell? ⟨w.heap.size, 1, none⟩ = some (.slice ai n.its.length ci) := by simp
  have q2 : (w.alloc (.cells #[.bool n.leaf, .slice ai n.its.length ci, .slice ak n.kds.length ck] 38)).cell? ⟨w.heap.size, 2, none⟩ = some (.slice ak n.kds.length ck) := by simp
  have HQ := hide (And.intro q0 (And.intro q1 q2))
  have HR := hide (check_any n ai ak ci ck _ (hn.grow hb0) hil hkl)
  by_cases h0 : checkN n = 0
  · have e : encodeN n = (strOf (ndL n), 0) := by unfold encodeN; rw [if_pos h0]
    rw [e]
    have HC := hide (fun W (hW : Below w.heap.size w W) => bytesOf_any n ai ak ci ck W (hn.grow hW) (checkN_right h0) hil hkl)
    rw [h0] at HR
    clear q0 q1 q2 h0 e hn hb0
    go_enter Tryz.func23, Tryz.ntmps23
    go_wp2_with (first
      | (go_at_call 56; refine (unhide HR).mono ?_; rintro x w2 ⟨rfl, hb2⟩; have z0 := cell_keep (unhide HQ).1 hb2; have z1 := cell_keep (unhide HQ).2.1 hb2; have z2 := cell_keep (unhide HQ).2.2 hb2; have HB2 := hide (below_then (unhide HB) hb2); clear hb2)
      | (go_at_call 57; refine (unhide HC _ (unhide HB2)).mono ?_; rintro x w3 ⟨rfl, hb3⟩))
    go_ret2
    exact ⟨rfl, below_then (unhide HB2) hb3⟩
  · have e : encodeN n = (⟨#[]⟩, checkN n) := by unfold encodeN; rw [if_neg h0]
    rw [e]
    generalize checkN n = k at *
    have f0 : ((k : Int) == 0) = false := beq_eq_false_iff_ne.2 (by omega)
    have f1 : ((k : Int) != 0) = true := bne_iff_ne.2 (by omega)
    clear q0 q1 q2 h0 e hn hb0
    go_enter Tryz.func23, Tryz.ntmps23
    go_wp2_with (go_at_call 56; refine (unhide HR).mono ?_; rintro x w2 ⟨rfl, hb2⟩)
    go_ret2
    exact ⟨rfl, below_then (unhide HB) hb2⟩
end Go.Proofs.YtdelobaiicoogaaGreatDoor.L6

/- Appends to rows of one's own: one element more, what another row has (carried over from layer 3). -/
namespace Go.Proofs.YtdelobaiicoogaaGreatDoor.L6
open Go.ChangeShapes Go.WideShapes Go.ChangeAt Go.RowKit

theorem ownsRow_kind {w : World} {b : Nat} {e : TypeId} {size : Nat} {v : Value} {n : Nat} {xs : List Value} {g : Nat} (h : w.ownsRow b e size v n xs) (hv : v.ownBlock = some g) : ∃ cur, w.heap[g]? = some (.cells cur e (0, 0)) := by
  rcases h.2 with ⟨rfl, _⟩ | ⟨g', cap, cur, rfl, _, hg, _⟩
  · simp [Value.ownBlock] at hv
  · simp [Value.ownBlock] at hv
    subst hv
    exact ⟨cur, hg⟩
theorem ownsRow_same {w w' : World} {b : Nat} {e : TypeId} {size : Nat} {v : Value} {n : Nat} {xs : List Value} (h : w.ownsRow b e size v n xs) (hs : ∀ g, v.ownBlock = some g → w'.heap[g]? = w.heap[g]?) : w'.ownsRow b e size v n xs := by
  refine ⟨h.1, ?_⟩
  rcases h.2 with hn | ⟨g, cap, cur, rfl, hb, hgg, rest⟩
  · exact .inl hn
  · exact .inr ⟨g, cap, cur, rfl, hb, (hs g rfl).trans hgg, rest⟩
theorem ownsRow_form {w : World} {b : Nat} {e : TypeId} {size : Nat} {v : Value} {n : Nat} {xs : List Value} (h : w.ownsRow b e size v n xs) : ∃ a cap, v = .slice a n cap := by
  rcases h.2 with ⟨rfl, rfl⟩ | ⟨g, cap, cur, rfl, _⟩
  · exact ⟨_, _, rfl⟩
  · exact ⟨_, _, rfl⟩
/-- append of one element, which stands in a new block -/
theorem app_gen {ops : Array Oper} {rest : List Oper} {o : Oper} {a : Act} {Q : Exit → Act → World → Prop} {t e : TypeId} {z : Value} {size bytes : Nat} {B : Nat} {wr : World} {v : Value} {n : Nat} {xs news : List Value}
    (ht : Tryz.prog.underlying t = some (.slice e)) (hinfo : (Tryz.prog.info? e).map (fun i => (i.zero, i.size, i.bytes)) = some (some z, size, bytes)) (hzs : z.cells.size = size) (hsz : 0 < size)
    (hwant : Region.wanted o (yielded ops a.tmps) = true) (s x : Operand) (ho : o.op = .call { callee := .builtin .append, args := #[s, x], argTypes := #[t, t] })
    (hs : a.eval s = v) (hx : a.eval x = .slice (some ⟨wr.heap.size, 0, none⟩) 1 1) (hown : wr.ownsRow B e size v n xs) (hB : B ≤ wr.heap.size) (hnl : news.length = size) (h1 : ∀ u ∈ news, u.oneCell' = true) (hlen : (n + 1) * bytes ≤ 140737488355328) (hl2 : n + 1 ≤ 140737488355328)
    (h : ∀ a' cap' w', w'.ownsRow B e size (.slice a' (n + 1) cap') (n + 1) (xs ++ news) → wr.grownBy w' v.ownBlock → ((Value.slice a' (n + 1) cap').ownBlock = v.ownBlock ∨ ∃ g, (Value.slice a' (n + 1) cap').ownBlock = some g ∧ wr.heap.size ≤ g) → wpList Tryz.prog ops Q rest (a.put o.dst (.slice a' (n + 1) cap')) w') :
    wpList Tryz.prog ops Q (o :: rest) a (wr.alloc (.cells news.toArray e)) := by
  obtain ⟨i0, hi, hz0, hz1, hz2⟩ := info_parts hinfo
  obtain ⟨v', w', hr, ho', hg, _, hloc⟩ := run_append_own_at (P := Tryz.prog) (wr.alloc (.cells news.toArray e)) B t o.type e i0 z size bytes ht hi hz0 hz1 hz2 hzs hsz v n xs (World.ownsRow.alloc hown _) ⟨wr.heap.size, 0, none⟩ 1 1 news (by omega)
    (fun j u hj => by
      rw [Go.WideShapes.add_plain, Nat.zero_add]
      simpa using hj)
    h1 (by unfold maxLen; omega) hlen (by simp; omega)
  have hform : ∃ a' cap', v' = .slice a' (n + 1) cap' := by
    rcases ho'.2 with ⟨_, hn⟩ | ⟨g, cap, cur, e, _⟩
    · omega
    · exact ⟨_, _, e⟩
  obtain ⟨a', cap', rfl⟩ := hform
  refine BigFrame.wpList_want hwant fun K hK => ?_
  unfold Oper.wp execOp
  simp only [ho, resolve, invoke, builtin, Sem.run_bind, Sem.run_pure, Result.andThen_ok, List.map_toArray, List.map_cons, List.map_nil, hs, hx, hr]
  refine hK _ _ (h a' cap' w' ho' ⟨hg.os, hg.tape, hg.output, Nat.le_trans (by simp) hg.size, fun k hk hn => (hg.block k (by simp; omega) hn).trans (Below.heap_alloc _ _ _ hk)⟩ ?_)
  rcases hloc with h | h
  · exact .inl h
  · exact .inr ⟨_, h, by simp⟩
theorem ownsRow_base {w : World} {B B' : Nat} {e : TypeId} {size : Nat} {v : Value} {n : Nat} {xs : List Value} (h : w.ownsRow B e size v n xs) (hB : B' ≤ B) : w.ownsRow B' e size v n xs := by
  refine ⟨h.1, ?_⟩
  rcases h.2 with h2 | ⟨g, cap, cur, e, hg, r⟩
  · exact .inl h2
  · exact .inr ⟨g, cap, cur, e, by omega, r⟩
/-- append of one element, where the order is drawn -/
theorem step_gen {ops : Array Oper} {o : Oper} {a : Act} {K : Act → World → Prop} {Q : Exit → Act → World → Prop} {E : Prop} {t e : TypeId} {z : Value} {size bytes : Nat} {B : Nat} {wr : World} {v : Value} {n : Nat} {xs news : List Value}
    (hgd : o.guard = none) (ht : Tryz.prog.underlying t = some (.slice e)) (hinfo : (Tryz.prog.info? e).map (fun i => (i.zero, i.size, i.bytes)) = some (some z, size, bytes)) (hzs : z.cells.size = size) (hsz : 0 < size)
    (s x : Operand) (ho : o.op = .call { callee := .builtin .append, args := #[s, x], argTypes := #[t, t] })
    (hs : a.eval s = v) (hx : a.eval x = .slice (some ⟨wr.heap.size, 0, none⟩) 1 1) (hown : wr.ownsRow B e size v n xs) (hB : B ≤ wr.heap.size) (hnl : news.length = size) (h1 : ∀ u ∈ news, u.oneCell' = true) (hlen : (n + 1) * bytes ≤ 140737488355328) (hl2 : n + 1 ≤ 140737488355328)
    (h : ∀ a' cap' w', w'.ownsRow B e size (.slice a' (n + 1) cap') (n + 1) (xs ++ news) → wr.grownBy w' v.ownBlock → ((Value.slice a' (n + 1) cap').ownBlock = v.ownBlock ∨ ∃ g, (Value.slice a' (n + 1) cap').ownBlock = some g ∧ wr.heap.size ≤ g) → K (a.put o.dst (.slice a' (n + 1) cap')) w') :
    if Region.wanted o (yielded ops a.tmps) = true then Oper.wp Tryz.prog o a (wr.alloc (.cells news.toArray e)) K Q else E := by
  have hw : Region.wanted o (yielded ops a.tmps) = true := by simp [Region.wanted, hgd]
  rw [if_pos hw]
  obtain ⟨i0, hi, hz0, hz1, hz2⟩ := info_parts hinfo
  obtain ⟨v', w', hr, ho', hg, _, hloc⟩ := run_append_own_at (P := Tryz.prog) (wr.alloc (.cells news.toArray e)) B t o.type e i0 z size bytes ht hi hz0 hz1 hz2 hzs hsz v n xs (World.ownsRow.alloc hown _) ⟨wr.heap.size, 0, none⟩ 1 1 news (by omega)
    (fun j u hj => by
      rw [Go.WideShapes.add_plain, Nat.zero_add]
      simpa using hj)
    h1 (by unfold maxLen; omega) hlen (by simp; omega)
  have hform : ∃ a' cap', v' = .slice a' (n + 1) cap' := by
    rcases ho'.2 with ⟨_, hn⟩ | ⟨g, cap, cur, e, _⟩
    · omega
    · exact ⟨_, _, e⟩
  obtain ⟨a', cap', rfl⟩ := hform
  unfold Oper.wp execOp
  simp only [ho, resolve, invoke, builtin, Sem.run_bind, Sem.run_pure, Result.andThen_ok, List.map_toArray, List.map_cons, List.map_nil, hs, hx, hr]
  refine h a' cap' w' ho' ⟨hg.os, hg.tape, hg.output, Nat.le_trans (by simp) hg.size, fun k hk hn => (hg.block k (by simp; omega) hn).trans (Below.heap_alloc _ _ _ hk)⟩ ?_
  rcases hloc with h | h
  · exact .inl h
  · exact .inr ⟨_, h, by simp⟩
theorem info9 : (Tryz.prog.info? 9).map (fun i => (i.zero, i.size, i.bytes)) = some (some (.string ByteArray.empty), 1, 16) := by kernel_rfl
theorem info58 : (Tryz.prog.info? 58).map (fun i => (i.zero, i.size, i.bytes)) = some (some (.agg #[.string ByteArray.empty, .string ByteArray.empty]), 2, 32) := by kernel_rfl
theorem info76 : (Tryz.prog.info? 76).map (fun i => (i.zero, i.size, i.bytes)) = some (some (.agg #[.string ByteArray.empty, .int .i64 0]), 2, 24) := by kernel_rfl
end Go.Proofs.YtdelobaiicoogaaGreatDoor.L6
