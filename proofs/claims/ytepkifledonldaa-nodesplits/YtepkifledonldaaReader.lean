
/- What a reader of package pack answers, call by call. -/
import Derived.Test.YtepkifledonldaaTake
namespace Go.Proofs.Ytepkifledonldaa
open Go.ChangeShapes Go.WideShapes Go.ChangeAt Go.RowKit

/-- THE DOCUMENT's: the answer, what is left, the error -/
def byteR (L : ByteArray) (e : Nat) : Nat × ByteArray × Nat :=
  if e ≠ 0 then (0, L, e) else if L.size = 0 then (0, L, 20) else ((bn L).getD 0 0, L.extract 1 L.size, 0)
def shortR (L : ByteArray) (e : Nat) : Nat × ByteArray × Nat :=
  if e ≠ 0 then (0, L, e) else ((Pk.scan (bn L)).1, L.extract (Pk.scan (bn L)).2.1 L.size, (Pk.scan (bn L)).2.2)
def textR (L : ByteArray) (e : Nat) (most : Int) : ByteArray × ByteArray × Nat :=
  if e ≠ 0 then (⟨#[]⟩, L, e) else ((textOf L most).1, L.extract (textOf L most).2.1 L.size, (textOf L most).2.2)
def leftR (L : ByteArray) (e : Nat) : Nat := if e ≠ 0 then 0 else L.size
def endR (L : ByteArray) (e : Nat) : Nat := if e ≠ 0 then e else if L.size = 0 then 0 else 22

theorem ext0 (L : ByteArray) : L.extract 0 L.size = L := by
  apply ByteArray.ext
  simp
theorem byte0 (L : ByteArray) (h : 0 < L.size) : (bn L).getD 0 0 = L[0].toNat := by
  rw [List.getD_eq_getElem?_getD, bn_at L 0 h]
  rfl
theorem textOf_le (L : ByteArray) (most : Int) : (textOf L most).2.1 ≤ L.size := by
  rcases scan_cases L with ⟨n, k, hsc, _, _, _, hks, _, _⟩ | ⟨er, hsc, h0, _, _⟩
  · by_cases h1 : most < 0 ∨ most < (n : Int)
    · rw [textOf_long hsc h1]; exact Nat.zero_le _
    · by_cases h2 : L.size - k < n
      · rw [textOf_short hsc h1 h2]; exact Nat.zero_le _
      · rw [textOf_ok hsc h1 h2]
        show k + n ≤ _
        omega
  · rw [textOf_bad most hsc h0]; exact Nat.zero_le _
theorem scan_le (L : ByteArray) : (Pk.scan (bn L)).2.1 ≤ L.size := by
  rcases scan_cases L with ⟨n, k, hsc, _, _, _, hks, _, _⟩ | ⟨er, hsc, h0, _, _⟩
  · rw [hsc]; exact hks
  · rw [hsc]; exact Nat.zero_le _

set_option maxHeartbeats 400000 in
theorem read_any (s : ByteArray) (w : World) :
    Calls Try.prog 28 #[.string s] w fun x w' => x = .returned (.pointer (some ⟨w.heap.size, 0, none⟩)) ∧ w' = w.alloc (.cells #[.string s, .int .i64 0] 89) := by
  go_enter Try.func28, Try.ntmps28
  go_wp2
  go_ret
  exact ⟨rfl, rfl⟩
theorem Rd.new (w : World) (s : ByteArray) : Rd (w.alloc (.cells #[.string s, .int .i64 0] 89)) w.heap.size s 0 := heap_alloc_new w _

theorem box_cell (w : World) (v : Value) (t : TypeId) : (w.alloc (.cells #[v] t)).cell? ⟨w.heap.size, 0, none⟩ = some v := by simp

/- Byte -/
theorem takeByte_any (r e : Nat) (L : ByteArray) (w : World) (hr : Rd w r L e) (hL : L.size ≤ 1000000) :
    Calls Try.prog 67 #[.pointer (some ⟨r, 0, none⟩), .func (.func 68) #[] #[]] w fun x w' => x = .returned (.int .u8 ((byteR L e).1 : Int)) ∧ Told w w' r (byteR L e).2.1 (byteR L e).2.2 := by
  by_cases he : e ≠ 0
  · unfold byteR
    rw [if_pos he]
    exact take_err_u8 _ r e L w hr he
  · obtain rfl : e = 0 := by omega
    unfold byteR
    rw [if_neg he]
    by_cases h0 : L.size = 0
    · rw [if_pos h0]
      have h := take_byte r 0 20 0 L w hr hL (Nat.zero_le _) ((byteAhead_none w.heap.size r 0 L L _ h0 (box_cell _ _ _) (hr.alloc _)).mono (by rintro x w' ⟨rfl, rfl⟩; exact ⟨rfl, Told.err (hr.alloc _) 20⟩))
      rw [ext0] at h
      exact h
    · rw [if_neg h0]
      have hp : 0 < L.size := by omega
      have h := take_byte r 1 0 (L[0].toNat) L w hr hL hp ((byteAhead_some _ L _ hp).mono (by rintro x w' ⟨rfl, rfl⟩; exact ⟨rfl, Told.refl (hr.alloc _)⟩))
      rw [byte0 L hp]
      exact h
set_option maxHeartbeats 400000 in
theorem byte_any (r e : Nat) (L : ByteArray) (w : World) (hr : Rd w r L e) (hL : L.size ≤ 1000000) :
    Calls Try.prog 53 #[.pointer (some ⟨r, 0, none⟩)] w fun x w' => x = .returned (.int .u8 ((byteR L e).1 : Int)) ∧ Told w w' r (byteR L e).2.1 (byteR L e).2.2 := by
  have HT := hide (takeByte_any r e L w hr hL)
  clear hr
  generalize byteR L e = T at *
  go_enter Try.func53, Try.ntmps53
  go_wp2_with (go_at_call 67; refine (unhide HT).mono ?_; rintro x w' ⟨rfl, ht⟩)
  go_ret
  exact ⟨rfl, ht⟩
/- Fixed -/
/- Short -/
theorem takeShort_any (r e : Nat) (L : ByteArray) (w : World) (hr : Rd w r L e) (hL : L.size ≤ 1000000) :
    Calls Try.prog 74 #[.pointer (some ⟨r, 0, none⟩), .func (.func 75) #[] #[]] w fun x w' => x = .returned (.int .u64 ((shortR L e).1 : Int)) ∧ Told w w' r (shortR L e).2.1 (shortR L e).2.2 := by
  by_cases he : e ≠ 0
  · unfold shortR
    rw [if_pos he]
    exact take_err_u64 _ r e L w hr he
  · obtain rfl : e = 0 := by omega
    unfold shortR
    rw [if_neg he]
    refine take_short r _ _ _ L w hr hL (scan_le L) ((shortAhead41 w.heap.size r 0 L L _ (by unfold maxLen; omega) (box_cell _ _ _) (hr.alloc _)).mono ?_)
    rintro x w' ⟨n, k, er, h, rfl, rfl⟩
    rw [h]
    exact ⟨rfl, Told.tell (hr.alloc _) er⟩
set_option maxHeartbeats 400000 in
theorem rshort_any (r e : Nat) (L : ByteArray) (w : World) (hr : Rd w r L e) (hL : L.size ≤ 1000000) :
    Calls Try.prog 69 #[.pointer (some ⟨r, 0, none⟩)] w fun x w' => x = .returned (.int .u64 ((shortR L e).1 : Int)) ∧ Told w w' r (shortR L e).2.1 (shortR L e).2.2 := by
  have HT := hide (takeShort_any r e L w hr hL)
  clear hr
  generalize shortR L e = T at *
  go_enter Try.func69, Try.ntmps69
  go_wp2_with (go_at_call 74; refine (unhide HT).mono ?_; rintro x w' ⟨rfl, ht⟩)
  go_ret
  exact ⟨rfl, ht⟩
/- Text -/
theorem takeText_any (r e d : Nat) (L : ByteArray) (most : Int) (w : World) (hr : Rd w r L e) (hL : L.size ≤ 1000000) (hm : -9223372036854775808 ≤ most ∧ most ≤ 9223372036854775807) (hd : w.cell? ⟨d, 0, none⟩ = some (.int .i64 most)) :
    Calls Try.prog 76 #[.pointer (some ⟨r, 0, none⟩), .func (.func 77) #[] #[.pointer (some ⟨d, 0, none⟩)]] w fun x w' => x = .returned (.string (textR L e most).1) ∧ Told w w' r (textR L e most).2.1 (textR L e most).2.2 := by
  by_cases he : e ≠ 0
  · unfold textR
    rw [if_pos he]
    exact take_err_str _ r e L w hr he
  · obtain rfl : e = 0 := by omega
    unfold textR
    rw [if_neg he]
    have hd' : (w.alloc (.cells #[.pointer (some ⟨r, 0, none⟩)] 52)).cell? ⟨d, 0, none⟩ = some (.int .i64 most) :=
      (((Below.refl w.heap.size w).alloc (Nat.le_refl _) _).cell (World.block_lt_of_cell? w ⟨d, 0, none⟩ hd)).trans hd
    exact take_text r _ _ _ L w d hr hL (textOf_le L most) (textClosure w.heap.size r d L L most _ hL hm hd' (box_cell _ _ _) (hr.alloc _))
theorem Told.boxed {w w' : World} {o : Obj} {r e : Nat} {L : ByteArray} (h : Told (w.alloc o) w' r L e) : Told w w' r L e := ⟨grown_trans (grown_alloc w o _) h.1, h.2⟩
set_option maxHeartbeats 400000 in
theorem rtext_any (r e : Nat) (L : ByteArray) (most : Int) (w : World) (hr : Rd w r L e) (hL : L.size ≤ 1000000) (hm : -9223372036854775808 ≤ most ∧ most ≤ 9223372036854775807) :
    Calls Try.prog 71 #[.pointer (some ⟨r, 0, none⟩), .int .i64 most] w fun x w' => x = .returned (.string (textR L e most).1) ∧ Told w w' r (textR L e most).2.1 (textR L e most).2.2 := by
  have HT := hide (takeText_any r e w.heap.size L most (w.alloc (.cells #[.int .i64 most] 3)) (hr.alloc _) hL hm (box_cell _ _ _))
  clear hr
  generalize textR L e most = T at *
  go_enter Try.func71, Try.ntmps71
  go_wp2_with (go_at_call 76; refine (unhide HT).mono ?_; rintro x w' ⟨rfl, ht⟩)
  go_ret
  exact ⟨rfl, ht.boxed⟩
/- Left -/
/- End -/
end Go.Proofs.Ytepkifledonldaa
