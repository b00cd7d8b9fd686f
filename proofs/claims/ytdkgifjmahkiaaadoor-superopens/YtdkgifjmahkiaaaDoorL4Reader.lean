/- What a reader of package pack answers, call by call. -/
import Derived.Test.YtdkgifjmahkiaaaDoorL4Take
namespace Go.Proofs.YtdkgifjmahkiaaaDoor.L4
open Go.ChangeShapes Go.WideShapes Go.ChangeAt Go.RowKit

/-- THE DOCUMENT's: the answer, what is left, the error -/
def byteR (L : ByteArray) (e : Nat) : Nat × ByteArray × Nat :=
  if e ≠ 0 then (0, L, e) else if L.size = 0 then (0, L, 20) else ((bn L).getD 0 0, L.extract 1 L.size, 0)
def fixedR (L : ByteArray) (e : Nat) : Nat × ByteArray × Nat :=
  if e ≠ 0 then (0, L, e) else if L.size < 8 then (0, L, 20) else (Pk.fixN ((bn L).take 8), L.extract 8 L.size, 0)
theorem ext0 (L : ByteArray) : L.extract 0 L.size = L := by
  apply ByteArray.ext
  simp
theorem byte0 (L : ByteArray) (h : 0 < L.size) : (bn L).getD 0 0 = L[0].toNat := by
  rw [List.getD_eq_getElem?_getD, bn_at L 0 h]
  rfl
set_option maxHeartbeats 400000 in
theorem read_any (s : ByteArray) (w : World) :
    Calls Tryd.prog 34 #[.string s] w fun x w' => x = .returned (.pointer (some ⟨w.heap.size, 0, none⟩)) ∧ w' = w.alloc (.cells #[.string s, .int .i64 0] 86) := by
  go_enter Tryd.func34, Tryd.ntmps34
  go_wp2
  go_ret
  exact ⟨rfl, rfl⟩
theorem Rd.new (w : World) (s : ByteArray) : Rd (w.alloc (.cells #[.string s, .int .i64 0] 86)) w.heap.size s 0 := heap_alloc_new w _

theorem box_cell (w : World) (v : Value) (t : TypeId) : (w.alloc (.cells #[v] t)).cell? ⟨w.heap.size, 0, none⟩ = some v := by simp

/- Byte -/
theorem takeByte_any (r e : Nat) (L : ByteArray) (w : World) (hr : Rd w r L e) (hL : L.size ≤ 1000000) :
    Calls Tryd.prog 54 #[.pointer (some ⟨r, 0, none⟩), .func (.func 55) #[] #[]] w fun x w' => x = .returned (.int .u8 ((byteR L e).1 : Int)) ∧ Told w w' r (byteR L e).2.1 (byteR L e).2.2 := by
  by_cases he : e ≠ 0
  · unfold byteR
    rw [if_pos he]
    exact take_err_u8 _ r e L w hr he
  · obtain rfl : e = 0 := by omega
    unfold byteR
    rw [if_neg he]
    by_cases h0 : L.size = 0
    · rw [if_pos h0]
      have h := take_byte r 0 20 0 L w hr hL (Nat.zero_le _) ((byteAhead_none w.heap.size r 0 L L _ h0 (box_cell _ _ _) (hr.alloc _)).mono (by rintro x w' ⟨rfl, rfl⟩; exact ⟨rfl, Told.err (hr.alloc _) 20⟩))
      rw [ext0] at h
      exact h
    · rw [if_neg h0]
      have hp : 0 < L.size := by omega
      have h := take_byte r 1 0 (L[0].toNat) L w hr hL hp ((byteAhead_some _ L _ hp).mono (by rintro x w' ⟨rfl, rfl⟩; exact ⟨rfl, Told.refl (hr.alloc _)⟩))
      rw [byte0 L hp]
      exact h
set_option maxHeartbeats 400000 in
theorem byte_any (r e : Nat) (L : ByteArray) (w : World) (hr : Rd w r L e) (hL : L.size ≤ 1000000) :
    Calls Tryd.prog 43 #[.pointer (some ⟨r, 0, none⟩)] w fun x w' => x = .returned (.int .u8 ((byteR L e).1 : Int)) ∧ Told w w' r (byteR L e).2.1 (byteR L e).2.2 := by
  have HT := hide (takeByte_any r e L w hr hL)
  clear hr
  generalize byteR L e = T at *
  go_enter Tryd.func43, Tryd.ntmps43
  go_wp2_with (go_at_call 54; refine (unhide HT).mono ?_; rintro x w' ⟨rfl, ht⟩)
  go_ret
  exact ⟨rfl, ht⟩
/- Fixed -/
theorem takeFixed_any (r e : Nat) (L : ByteArray) (w : World) (hr : Rd w r L e) (hL : L.size ≤ 1000000) :
    Calls Tryd.prog 46 #[.pointer (some ⟨r, 0, none⟩), .func (.func 47) #[] #[]] w fun x w' => x = .returned (.int .u64 ((fixedR L e).1 : Int)) ∧ Told w w' r (fixedR L e).2.1 (fixedR L e).2.2 := by
  by_cases he : e ≠ 0
  · unfold fixedR
    rw [if_pos he]
    exact take_err_u64 _ r e L w hr he
  · obtain rfl : e = 0 := by omega
    unfold fixedR
    rw [if_neg he]
    by_cases h0 : L.size < 8
    · rw [if_pos h0]
      have h := take_fixed r 0 20 0 L w hr hL (Nat.zero_le _) ((fixedAhead_none w.heap.size r 0 L L _ h0 (box_cell _ _ _) (hr.alloc _)).mono (by rintro x w' ⟨rfl, rfl⟩; exact ⟨rfl, Told.err (hr.alloc _) 20⟩))
      rw [ext0] at h
      exact h
    · rw [if_neg h0]
      exact take_fixed r 8 0 _ L w hr hL (by omega) ((fixedAhead_some _ L _ (by omega)).mono (by rintro x w' ⟨rfl, rfl⟩; exact ⟨rfl, Told.refl (hr.alloc _)⟩))
set_option maxHeartbeats 400000 in
theorem rfixed_any (r e : Nat) (L : ByteArray) (w : World) (hr : Rd w r L e) (hL : L.size ≤ 1000000) :
    Calls Tryd.prog 35 #[.pointer (some ⟨r, 0, none⟩)] w fun x w' => x = .returned (.int .u64 ((fixedR L e).1 : Int)) ∧ Told w w' r (fixedR L e).2.1 (fixedR L e).2.2 := by
  have HT := hide (takeFixed_any r e L w hr hL)
  clear hr
  generalize fixedR L e = T at *
  go_enter Tryd.func35, Tryd.ntmps35
  go_wp2_with (go_at_call 46; refine (unhide HT).mono ?_; rintro x w' ⟨rfl, ht⟩)
  go_ret
  exact ⟨rfl, ht⟩
end Go.Proofs.YtdkgifjmahkiaaaDoor.L4
