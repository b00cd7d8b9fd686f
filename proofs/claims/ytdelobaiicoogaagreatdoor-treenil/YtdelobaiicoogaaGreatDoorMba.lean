/- Texts that the proof needs, one behind the other. -/
import Derived.Test.YtdelobaiicoogaaGreatDoorMat
import Derived.Test.YtdelobaiicoogaaGreatDoorMax
/- The tree's calls of a nil heap, and of roots that nobody holds. -/
namespace Go.Proofs.YtdelobaiicoogaaGreatDoor
open Go.ChangeShapes Go.WideShapes Go.ChangeAt Go.RowKit
variable {w w' : World} {p d : Nat} {h : Hp} {c : Nat} {F : List Nat}

/-- is there a root among these that nobody holds? -/
def heldE (h : Hp) (ks : List Int) : Int := if ks.any (fun k => decide (k ≠ 0 ∧ h.cnt k = 0)) = true then 51 else 0
set_option maxHeartbeats 400000 in
theorem theld_nil (v : Value) (w : World) : Calls Tryz.prog 39 #[.pointer none, v] w fun e w' => e = .returned (.int .i64 2) ∧ w' = w := by
  go_enter Tryz.func39, Tryz.ntmps39
  go_wp2
  go_ret
  exact ⟨rfl, rfl⟩
set_option maxHeartbeats 2000000 in
set_option maxRecDepth 20000 in
theorem theld_any (ks : List Int) (b cap : Nat) (w : World) (H : IsHeap w p d h c F) (hI : ∀ x ∈ ks, L5.I64 x) (hl : ks.length ≤ 1000) (hr : ∀ i x, ks[i]? = some x → w.cell? ⟨b, i, none⟩ = some (.int .i64 x)) :
    Calls Tryz.prog 39 #[.pointer (some ⟨p, 0, none⟩), .slice (some ⟨b, 0, none⟩) ks.length cap] w fun e w' => e = .returned (.int .i64 (heldE h ks)) ∧ w' = w := by
  have HH := hide H
  have HI := hide hI
  have HR := hide hr
  clear H hI hr
  go_enter Tryz.func39, Tryz.ntmps39
  go_wp2
  go_loopw [11] (fun t wr => ∃ k : Nat, k ≤ ks.length ∧ t = .int .i64 (k : Int) ∧ (∀ j (hj : j < ks.length), j < k → ¬ (ks[j] ≠ 0 ∧ h.cnt ks[j] = 0)) ∧ wr = w) (fun t _ => ks.length - (intOf t).toNat)
  case atStart => exact ⟨0, Nat.zero_le _, rfl, (fun j hj h => absurd h (Nat.not_lt_zero _)), rfl⟩
  case round =>
    obtain ⟨k, hk, rfl, hc0, hw⟩ := hrel
    subst hw
    have HC := hide hc0
    clear hc0
    by_cases hlt : k < ks.length
    · have hcell := unhide HR k _ (List.getElem?_eq_getElem hlt)
      have hlt' : (k : Int) < (ks.length : Int) := by omega
      have HX := hide (unhide HI _ (List.getElem_mem hlt))
      obtain ⟨X, hX⟩ : ∃ y, y = ks[k] := ⟨_, rfl⟩
      rw [← hX] at hcell HX
      have HXE := hide hX
      clear hX
      by_cases h0 : X = 0
      · subst h0
        go_wp2
        go_roundw
        case rel =>
          refine ⟨k + 1, by omega, by go_num, fun j hj hjk => ?_, trivial⟩
          by_cases e : j = k
          · subst e
            rw [← unhide HXE]
            exact fun hh => hh.1 rfl
          · exact unhide HC j hj (by omega)
        case measure => simp [intOf]; omega
      · have h0' : (X == 0) = false := beq_eq_false_iff_ne.2 h0
        have h0'' : (X != 0) = true := bne_iff_ne.2 h0
        by_cases hz : h.cnt X = 0
        · have hz' : ((h.cnt X : Nat) : Int) = 0 := by omega
          have HZ := hide (And.intro h0 hz)
          clear h0 hz
          go_wp2_with (go_at_call 69; refine (hcount_any X (unhide HX) _ (unhide HH)).mono ?_; rintro e w1 ⟨rfl, hw⟩; rw [hw]; clear hw w1; rw [hz'])
          go_ret
          refine ⟨?_, rfl⟩
          unfold heldE
          rw [if_pos (List.any_eq_true.2 ⟨ks[k], List.getElem_mem hlt, by rw [← unhide HXE]; simpa using unhide HZ⟩)]
          rfl
        · have hz' : (((h.cnt X : Nat) : Int) == 0) = false := beq_eq_false_iff_ne.2 (by omega)
          have HZ := hide hz
          obtain ⟨C, hC⟩ : ∃ y, y = ((h.cnt X : Nat) : Int) := ⟨_, rfl⟩
          rw [← hC] at hz'
          have HCE := hide hC
          clear h0 hz hC
          go_wp2_with (go_at_call 69; refine (hcount_any X (unhide HX) _ (unhide HH)).mono ?_; rintro e w1 ⟨rfl, hw⟩; rw [hw]; clear hw w1; rw [← unhide HCE])
          go_roundw
          case rel =>
            refine ⟨k + 1, by omega, by go_num, fun j hj hjk => ?_, trivial⟩
            by_cases e : j = k
            · subst e
              rw [← unhide HXE]
              exact fun hh => unhide HZ hh.2
            · exact unhide HC j hj (by omega)
          case measure => simp [intOf]; omega
    · obtain rfl : k = ks.length := by omega
      have hlt' : ¬ (ks.length : Int) < (ks.length : Int) := by omega
      clear hlt
      go_wp2
      go_ret
      refine ⟨?_, rfl⟩
      unfold heldE
      rw [if_neg (by
        intro hh
        obtain ⟨x, hx, hp⟩ := List.any_eq_true.1 hh
        obtain ⟨j, hj, rfl⟩ := List.getElem_of_mem hx
        exact unhide HC j hj hj (by simpa using hp))]
      rfl
/-- one root -/
theorem theld_one (x : Int) (b : Nat) (w : World) (H : IsHeap w p d h c F) (hI : L5.I64 x) (hr : w.cell? ⟨b, 0, none⟩ = some (.int .i64 x)) :
    Calls Tryz.prog 39 #[.pointer (some ⟨p, 0, none⟩), .slice (some ⟨b, 0, none⟩) 1 1] w fun e w' => e = .returned (.int .i64 (heldE h [x])) ∧ w' = w :=
  theld_any [x] b 1 w H (fun y hy => by simp at hy; rw [hy]; exact hI) (by simp) (fun i y hy => by
    match i, hy with
    | 0, hy => cases hy; exact hr)
theorem theld_two (x y : Int) (b : Nat) (w : World) (H : IsHeap w p d h c F) (hI : L5.I64 x) (hJ : L5.I64 y) (hr : w.cell? ⟨b, 0, none⟩ = some (.int .i64 x)) (hs : w.cell? ⟨b, 1, none⟩ = some (.int .i64 y)) :
    Calls Tryz.prog 39 #[.pointer (some ⟨p, 0, none⟩), .slice (some ⟨b, 0, none⟩) 2 2] w fun e w' => e = .returned (.int .i64 (heldE h [x, y])) ∧ w' = w :=
  theld_any [x, y] b 2 w H (fun z hz => by simp at hz; rcases hz with rfl | rfl <;> assumption) (by simp) (fun i z hz => by
    match i, hz with
    | 0, hz => cases hz; exact hr
    | 1, hz => cases hz; exact hs)

/-! a nil heap -/
set_option maxHeartbeats 1000000 in
theorem tget_nil (x : Int) (k : ByteArray) (w : World) : Calls Tryz.prog 14 #[.pointer none, .int .i64 x, .string k] w fun e w' => e = .returned (.tuple #[.string ⟨#[]⟩, .bool false, .int .i64 2]) ∧ Below w.heap.size w w' := by
  go_enter Tryz.func14, Tryz.ntmps14
  go_wp2_with (go_at_call 39; refine (theld_nil _ _).mono ?_; rintro e w1 ⟨rfl, rfl⟩)
  refine bodyPost_ret (results_tmp3 rfl _ _ _) rfl ?_
  exact ⟨rfl, below_alloc _ _⟩
set_option maxHeartbeats 1000000 in
theorem tput_nil (x : Int) (k v : ByteArray) (w : World) : Calls Tryz.prog 15 #[.pointer none, .int .i64 x, .string k, .string v] w fun e w' => e = .returned (.tuple #[.int .i64 0, .int .i64 2]) ∧ Below w.heap.size w w' := by
  have hb := below_then (below_then (below_alloc w (.cells #[.string k] 9)) (below_alloc _ (.cells #[.string v] 9))) (below_alloc _ (.cells #[.int .i64 x] 3))
  have HB := hide hb
  clear hb
  go_enter Tryz.func15, Tryz.ntmps15
  go_wp2_with (go_at_call 39; refine (theld_nil _ _).mono ?_; rintro e w1 ⟨rfl, rfl⟩)
  go_ret2
  exact ⟨rfl, unhide HB⟩
set_option maxHeartbeats 1000000 in
theorem tdel_nil (x : Int) (k : ByteArray) (w : World) : Calls Tryz.prog 16 #[.pointer none, .int .i64 x, .string k] w fun e w' => e = .returned (.tuple #[.int .i64 0, .int .i64 2]) ∧ Below w.heap.size w w' := by
  have HB := hide (below_then (below_alloc w (.cells #[.string k] 9)) (below_alloc _ (.cells #[.int .i64 x] 3)))
  go_enter Tryz.func16, Tryz.ntmps16
  go_wp2_with (go_at_call 39; refine (theld_nil _ _).mono ?_; rintro e w1 ⟨rfl, rfl⟩)
  go_ret2
  exact ⟨rfl, unhide HB⟩
set_option maxHeartbeats 1000000 in
theorem trange_nil (x m : Int) (k t : ByteArray) (w : World) : Calls Tryz.prog 17 #[.pointer none, .int .i64 x, .string k, .string t, .int .i64 m] w fun e w' => e = .returned (.tuple #[.slice none 0 0, .int .i64 2]) ∧ Below w.heap.size w w' := by
  have HB := hide (below_then (below_alloc w (.cells #[.int .i64 m] 3)) (below_alloc _ (.cells #[.int .i64 x] 3)))
  go_enter Tryz.func17, Tryz.ntmps17
  go_wp2_with (go_at_call 39; refine (theld_nil _ _).mono ?_; rintro e w1 ⟨rfl, rfl⟩)
  go_ret2
  exact ⟨rfl, unhide HB⟩
set_option maxHeartbeats 1000000 in
theorem tdiff_nil (x y : Int) (w : World) : Calls Tryz.prog 18 #[.pointer none, .int .i64 x, .int .i64 y] w fun e w' => e = .returned (.tuple #[.slice none 0 0, .int .i64 0, .int .i64 2]) ∧ Below w.heap.size w w' := by
  go_enter Tryz.func18, Tryz.ntmps18
  go_wp2_with (go_at_call 39; refine (theld_nil _ _).mono ?_; rintro e w1 ⟨rfl, rfl⟩)
  refine bodyPost_ret (results_tmp3 rfl _ _ _) rfl ?_
  exact ⟨rfl, below_alloc _ _⟩
set_option maxHeartbeats 1000000 in
theorem tcheck_nil (x : Int) (w : World) : Calls Tryz.prog 12 #[.pointer none, .int .i64 x] w fun e w' => e = .returned (.int .i64 2) ∧ Below w.heap.size w w' := by
  go_enter Tryz.func12, Tryz.ntmps12
  go_wp2_with (go_at_call 39; refine (theld_nil _ _).mono ?_; rintro e w1 ⟨rfl, rfl⟩)
  go_ret
  exact ⟨rfl, below_alloc _ _⟩

/-! a root that nobody holds -/
theorem cell_third (w : World) (o1 o2 : Obj) (v : Value) (t : TypeId) : (((w.alloc o1).alloc o2).alloc (.cells #[v] t)).cell? ⟨w.heap.size + 1 + 1, 0, none⟩ = some v := by
  have e : ((w.alloc o1).alloc o2).heap.size = w.heap.size + 1 + 1 := by rw [World.size_alloc, World.size_alloc]
  generalize (w.alloc o1).alloc o2 = x at *
  rw [← e]
  simp
theorem heldE_one {x : Int} (h0 : x ≠ 0) (hz : h.cnt x = 0) : heldE h [x] = 51 := by unfold heldE; rw [if_pos (by simp [h0, hz])]
theorem heldE_zero : heldE h [0] = 0 := by unfold heldE; rw [if_neg (by simp)]
theorem heldE_two {x : Int} (h0 : x ≠ 0) (hz : h.cnt x = 0) : heldE h [0, x] = 51 := by unfold heldE; rw [if_pos (by simp [h0, hz])]
theorem heldE_is {x : Int} (hz : h.cnt x ≠ 0) : heldE h [x] = 0 := by unfold heldE; rw [if_neg (by simp [hz])]
set_option maxHeartbeats 1000000 in
theorem tget_free (x : Int) (k : ByteArray) (w : World) (H : IsHeap w p d h c F) (hI : L5.I64 x) (h0 : x ≠ 0) (hz : h.cnt x = 0) : Calls Tryz.prog 14 #[.pointer (some ⟨p, 0, none⟩), .int .i64 x, .string k] w fun e w' => e = .returned (.tuple #[.string ⟨#[]⟩, .bool false, .int .i64 51]) ∧ Below w.heap.size w w' := by
  have HH := hide (H.grow (below_alloc w (.cells #[.int .i64 x] 3)))
  have HI := hide hI
  have HE := hide (heldE_one h0 hz)
  clear H hI h0 hz
  go_enter Tryz.func14, Tryz.ntmps14
  go_wp2_with (go_at_call 39; refine (theld_one x _ _ (unhide HH) (unhide HI) (by simp)).mono ?_; rintro e w1 ⟨rfl, hw⟩; rw [hw]; clear hw w1; rw [unhide HE])
  refine bodyPost_ret (results_tmp3 rfl _ _ _) rfl ?_
  exact ⟨rfl, below_alloc _ _⟩
set_option maxHeartbeats 1000000 in
theorem tput_free (x : Int) (k v : ByteArray) (w : World) (H : IsHeap w p d h c F) (hI : L5.I64 x) (h0 : x ≠ 0) (hz : h.cnt x = 0) : Calls Tryz.prog 15 #[.pointer (some ⟨p, 0, none⟩), .int .i64 x, .string k, .string v] w fun e w' => e = .returned (.tuple #[.int .i64 0, .int .i64 51]) ∧ Below w.heap.size w w' := by
  have hb := below_then (below_then (below_alloc w (.cells #[.string k] 9)) (below_alloc _ (.cells #[.string v] 9))) (below_alloc _ (.cells #[.int .i64 x] 3))
  have HB := hide hb
  have HH := hide (H.grow hb)
  have HI := hide hI
  have HE := hide (heldE_one h0 hz)
  clear hb H hI h0 hz
  go_enter Tryz.func15, Tryz.ntmps15
  go_wp2_with (go_at_call 39; refine (theld_one x _ _ (unhide HH) (unhide HI) (by first | exact cell_third _ _ _ _ _ | simp)).mono ?_; rintro e w1 ⟨rfl, hw⟩; rw [hw]; clear hw w1; rw [unhide HE])
  go_ret2
  exact ⟨rfl, unhide HB⟩
set_option maxHeartbeats 1000000 in
theorem tdel_free (x : Int) (k : ByteArray) (w : World) (H : IsHeap w p d h c F) (hI : L5.I64 x) (h0 : x ≠ 0) (hz : h.cnt x = 0) : Calls Tryz.prog 16 #[.pointer (some ⟨p, 0, none⟩), .int .i64 x, .string k] w fun e w' => e = .returned (.tuple #[.int .i64 0, .int .i64 51]) ∧ Below w.heap.size w w' := by
  have hb := below_then (below_alloc w (.cells #[.string k] 9)) (below_alloc _ (.cells #[.int .i64 x] 3))
  have HB := hide hb
  have HH := hide (H.grow hb)
  have HI := hide hI
  have HE := hide (heldE_one h0 hz)
  clear hb H hI h0 hz
  go_enter Tryz.func16, Tryz.ntmps16
  go_wp2_with (go_at_call 39; refine (theld_one x _ _ (unhide HH) (unhide HI) (by simp)).mono ?_; rintro e w1 ⟨rfl, hw⟩; rw [hw]; clear hw w1; rw [unhide HE])
  go_ret2
  exact ⟨rfl, unhide HB⟩
set_option maxHeartbeats 1000000 in
theorem trange_free (x m : Int) (k t : ByteArray) (w : World) (H : IsHeap w p d h c F) (hI : L5.I64 x) (h0 : x ≠ 0) (hz : h.cnt x = 0) : Calls Tryz.prog 17 #[.pointer (some ⟨p, 0, none⟩), .int .i64 x, .string k, .string t, .int .i64 m] w fun e w' => e = .returned (.tuple #[.slice none 0 0, .int .i64 51]) ∧ Below w.heap.size w w' := by
  have hb := below_then (below_alloc w (.cells #[.int .i64 m] 3)) (below_alloc _ (.cells #[.int .i64 x] 3))
  have HB := hide hb
  have HH := hide (H.grow hb)
  have HI := hide hI
  have HE := hide (heldE_one h0 hz)
  clear hb H hI h0 hz
  go_enter Tryz.func17, Tryz.ntmps17
  go_wp2_with (go_at_call 39; refine (theld_one x _ _ (unhide HH) (unhide HI) (by simp)).mono ?_; rintro e w1 ⟨rfl, hw⟩; rw [hw]; clear hw w1; rw [unhide HE])
  go_ret2
  exact ⟨rfl, unhide HB⟩
set_option maxHeartbeats 1000000 in
theorem tdiff_free (x : Int) (w : World) (H : IsHeap w p d h c F) (hI : L5.I64 x) (h0 : x ≠ 0) (hz : h.cnt x = 0) : Calls Tryz.prog 18 #[.pointer (some ⟨p, 0, none⟩), .int .i64 0, .int .i64 x] w fun e w' => e = .returned (.tuple #[.slice none 0 0, .int .i64 0, .int .i64 51]) ∧ Below w.heap.size w w' := by
  have HH := hide (H.grow (below_alloc w (.cells #[.int .i64 0, .int .i64 x] 3)))
  have HI := hide hI
  have HE := hide (heldE_two h0 hz)
  clear H hI h0 hz
  go_enter Tryz.func18, Tryz.ntmps18
  go_wp2_with (go_at_call 39; refine (theld_two 0 x _ _ (unhide HH) ⟨by decide, by decide⟩ (unhide HI) (by simp) (by simp)).mono ?_; rintro e w1 ⟨rfl, hw⟩; rw [hw]; clear hw w1; rw [unhide HE])
  refine bodyPost_ret (results_tmp3 rfl _ _ _) rfl ?_
  exact ⟨rfl, below_alloc _ _⟩
set_option maxHeartbeats 1000000 in
theorem tcheck_free (x : Int) (w : World) (H : IsHeap w p d h c F) (hI : L5.I64 x) (h0 : x ≠ 0) (hz : h.cnt x = 0) : Calls Tryz.prog 12 #[.pointer (some ⟨p, 0, none⟩), .int .i64 x] w fun e w' => e = .returned (.int .i64 51) ∧ Below w.heap.size w w' := by
  have HH := hide (H.grow (below_alloc w (.cells #[.int .i64 x] 3)))
  have HI := hide hI
  have HE := hide (heldE_one h0 hz)
  clear H hI h0 hz
  go_enter Tryz.func12, Tryz.ntmps12
  go_wp2_with (go_at_call 39; refine (theld_one x _ _ (unhide HH) (unhide HI) (by simp)).mono ?_; rintro e w1 ⟨rfl, hw⟩; rw [hw]; clear hw w1; rw [unhide HE])
  go_ret
  exact ⟨rfl, below_alloc _ _⟩
set_option maxHeartbeats 1000000 in
theorem tcheck_zero (w : World) (H : IsHeap w p d h c F) : Calls Tryz.prog 12 #[.pointer (some ⟨p, 0, none⟩), .int .i64 0] w fun e w' => e = .returned (.int .i64 0) ∧ Below w.heap.size w w' := by
  have HH := hide (H.grow (below_alloc w (.cells #[.int .i64 0] 3)))
  have HE := hide (heldE_zero (h := h))
  clear H
  go_enter Tryz.func12, Tryz.ntmps12
  go_wp2_with (go_at_call 39; refine (theld_one 0 _ _ (unhide HH) ⟨by decide, by decide⟩ (by simp)).mono ?_; rintro e w1 ⟨rfl, hw⟩; rw [hw]; clear hw w1; rw [unhide HE])
  go_ret
  exact ⟨rfl, below_alloc _ _⟩

set_option maxHeartbeats 1000000 in
set_option maxRecDepth 20000 in
/-- a heap on a new disk -/
theorem tbegun_ok (n : Nat) (w : World) (hT : L4.Tab w) (h8 : 8 ≤ n) (hn : n ≤ 4096) :
    Calls Tryz.prog 6 #[.int .i64 (n : Int)] w fun e w' => ∃ p d F, e = .returned (.tuple #[.pointer (some ⟨p, 0, none⟩), .pointer (some ⟨d, 0, none⟩)]) ∧ IsHeap w' p d (newH (L3.newM n) 1) 0 F ∧ Below w.heap.size w w' ∧ ∀ x ∈ F, w.heap.size ≤ x := by
  have HT := hide hT
  have H8 := hide h8
  have HN := hide hn
  have hsz : 0 < w.heap.size := World.block_lt_of_cell? w ⟨0, 0, none⟩ (hT 0 (by omega))
  have HSZ := hide hsz
  clear hT h8 hn hsz
  go_enter Tryz.func6, Tryz.ntmps6
  go_wp2_with (first
    | (go_at_call 19; refine (L3.new_any (n : Int) _ (by have := unhide H8; omega) (by have := unhide HN; omega)).mono ?_; rintro e w1 ⟨d, fd, rfl, hd, hb1, hf1⟩; have HD := hide (And.intro hd hf1); have HB1 := hide hb1; clear hd hb1 hf1)
    | (go_at_call 20; refine (hnew_ok 1 _ (unhide HD).1 (tab_keep (unhide HT) (L5.Moves.of_below [] (unhide HB1)) List.not_mem_nil) (fun x hx => by have := (unhide HD).2 x hx; have := unhide HSZ; omega) (by decide) (by decide) (by rw [show ((n : Int)).toNat = n from rfl, newM_len]; have := unhide H8; omega)).mono ?_; rintro e w3 ⟨p, F, rfl, hp, hb3, hf3⟩; have HP := hide hp; have HB3 := hide (below_then (unhide HB1) hb3); have HF3 := hide hf3; clear hp hb3 hf3))
  go_ret2
  refine ⟨p, d, F, rfl, unhide HP, unhide HB3, fun x hx => ?_⟩
  rcases unhide HF3 x hx with h1 | h1
  · exact (unhide HD).2 x h1
  · exact Nat.le_trans (unhide HB1).size h1
end Go.Proofs.YtdelobaiicoogaaGreatDoor
