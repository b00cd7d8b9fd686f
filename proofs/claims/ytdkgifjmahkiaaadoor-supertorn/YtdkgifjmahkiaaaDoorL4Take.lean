/- What take does: it goes on behind what stands ahead. -/
import Derived.Test.YtdkgifjmahkiaaaDoorL4Ahead
import Derived.RegionTactic
import Derived.ChangeAlike
namespace Go.Proofs.YtdkgifjmahkiaaaDoor.L4
open Go.ChangeShapes Go.WideShapes Go.ChangeAt Go.RowKit

set_option maxHeartbeats 400000 in
theorem err_any (r e : Nat) (L : ByteArray) (w : World) (hr : Rd w r L e) :
    Calls Tryd.prog 64 #[.pointer (some ⟨r, 0, none⟩)] w fun x w' => x = .returned (.int .i64 (e : Int)) ∧ w' = w := by
  have h1 := hr.cell1
  clear hr
  go_enter Tryd.func64, Tryd.ntmps64
  go_wp2
  go_ret
  exact ⟨rfl, rfl⟩

theorem Rd.alloc {w : World} {r e : Nat} {L : ByteArray} (h : Rd w r L e) (o : Obj) : Rd (w.alloc o) r L e := h.below ((Below.refl _ _).alloc (Nat.le_refl _) o)
theorem Rd.drew {w : World} {r e : Nat} {L : ByteArray} (h : Rd w r L e) : Rd w.drew r L e := h.below (Below.refl _ _).drew
theorem grown_drew (w : World) (r : Option Nat) : w.grownBy w.drew r := grown_below (Below.refl _ _).drew r
theorem grown_alloc (w : World) (o : Obj) (r : Option Nat) : w.grownBy (w.alloc o) r := grown_below ((Below.refl _ _).alloc (Nat.le_refl _) o) r
/-- behind the store -/
theorem Told.left {w w' : World} {o : Obj} {r e : Nat} {L : ByteArray} (h : Told (w.alloc o) w' r L e) (L' : ByteArray) : Told w (w'.setCell ⟨r, 0, none⟩ (.string L')).drew r L' e :=
  ⟨grown_trans (grown_trans (grown_trans (grown_alloc w o _) h.1) (grown_set _ _ _ _)) (grown_drew _ _), (h.2.setLeft L').drew⟩
theorem Told.box {w w' : World} {r e : Nat} {L : ByteArray} {v : Value} {t : TypeId} (h : Told (w.alloc (.cells #[v] t)) w' r L e) (hr : r < w.heap.size) : w'.cell? ⟨w.heap.size, 0, none⟩ = some v :=
  World.grownBy.cell h.1 (by simp) (by simp; omega)

set_option maxRecDepth 10000 in
set_option maxHeartbeats 1000000 in
theorem take_err_u8 (v : Value) (r e : Nat) (L : ByteArray) (w : World) (hr : Rd w r L e) (h0 : e ≠ 0) :
    Calls Tryd.prog 54 #[.pointer (some ⟨r, 0, none⟩), v] w fun x w' => x = .returned (.int .u8 0) ∧ Told w w' r L e := by
  have HE := hide (err_any r e L _ (hr.alloc (.cells #[.pointer (some ⟨r, 0, none⟩)] 67)))
  have HR := hide hr
  clear hr
  have hne : ((e : Int) == 0) = false := beq_eq_false_iff_ne.2 (by omega)
  have hne2 : ((e : Int) != 0) = true := bne_iff_ne.2 (by omega)
  clear h0
  go_enter Tryd.func54, Tryd.ntmps54
  go_wp2_with (go_at_call 64; refine (unhide HE).mono ?_; rintro x w' ⟨rfl, rfl⟩)
  go_ret
  exact ⟨rfl, grown_alloc _ _ _, (unhide HR).alloc _⟩
set_option maxRecDepth 10000 in
set_option maxHeartbeats 1000000 in
theorem take_err_u64 (v : Value) (r e : Nat) (L : ByteArray) (w : World) (hr : Rd w r L e) (h0 : e ≠ 0) :
    Calls Tryd.prog 46 #[.pointer (some ⟨r, 0, none⟩), v] w fun x w' => x = .returned (.int .u64 0) ∧ Told w w' r L e := by
  have HE := hide (err_any r e L _ (hr.alloc (.cells #[.pointer (some ⟨r, 0, none⟩)] 67)))
  have HR := hide hr
  clear hr
  have hne : ((e : Int) == 0) = false := beq_eq_false_iff_ne.2 (by omega)
  have hne2 : ((e : Int) != 0) = true := bne_iff_ne.2 (by omega)
  clear h0
  go_enter Tryd.func46, Tryd.ntmps46
  go_wp2_with (go_at_call 64; refine (unhide HE).mono ?_; rintro x w' ⟨rfl, rfl⟩)
  go_ret
  exact ⟨rfl, grown_alloc _ _ _, (unhide HR).alloc _⟩
set_option maxRecDepth 10000 in
set_option maxHeartbeats 1000000 in
theorem take_byte (r k er : Nat) (n : Nat) (L : ByteArray) (w : World) (hr : Rd w r L 0) (_hL : L.size ≤ 1000000) (hk : k ≤ L.size)
    (hA : Calls Tryd.prog 55 #[.string L, .func (.func 68) #[] #[.pointer (some ⟨w.heap.size, 0, none⟩)]] (w.alloc (.cells #[.pointer (some ⟨r, 0, none⟩)] 67)) fun x w' =>
      x = .returned (.tuple #[.int .u8 (n : Int), .int .i64 (k : Int)]) ∧ Told (w.alloc (.cells #[.pointer (some ⟨r, 0, none⟩)] 67)) w' r L er) :
    Calls Tryd.prog 54 #[.pointer (some ⟨r, 0, none⟩), .func (.func 55) #[] #[]] w fun x w' => x = .returned (.int .u8 (n : Int)) ∧ Told w w' r (L.extract k L.size) er := by
  have HE := hide (err_any r 0 L _ (hr.alloc (.cells #[.pointer (some ⟨r, 0, none⟩)] 67)))
  have HA := hide hA
  have hlt := hr.lt
  have hne : ¬ r = w.heap.size := by omega
  have hc0 : (w.alloc (.cells #[.pointer (some ⟨r, 0, none⟩)] 67)).cell? ⟨r, 0, none⟩ = some (.string L) := (hr.alloc _).cell0
  clear hr hA
  go_enter Tryd.func54, Tryd.ntmps54
  go_wp2_with (first
    | (go_at_call 64; refine (unhide HE).mono ?_; rintro x w' ⟨rfl, rfl⟩)
    | (go_at_call 55; refine (unhide HA).mono ?_; rintro x w' ⟨rfl, ht⟩; have hb0 := ht.2.cell0; have hf0 := ht.2.free 0; have hbx := ht.box hlt; have HT := hide ht; clear ht))
  go_region
  all_goals go_wp2
  all_goals go_ret
  all_goals exact ⟨rfl, (unhide HT).left _⟩
set_option maxRecDepth 10000 in
set_option maxHeartbeats 1000000 in
theorem take_fixed (r k er : Nat) (n : Nat) (L : ByteArray) (w : World) (hr : Rd w r L 0) (_hL : L.size ≤ 1000000) (hk : k ≤ L.size)
    (hA : Calls Tryd.prog 47 #[.string L, .func (.func 65) #[] #[.pointer (some ⟨w.heap.size, 0, none⟩)]] (w.alloc (.cells #[.pointer (some ⟨r, 0, none⟩)] 67)) fun x w' =>
      x = .returned (.tuple #[.int .u64 (n : Int), .int .i64 (k : Int)]) ∧ Told (w.alloc (.cells #[.pointer (some ⟨r, 0, none⟩)] 67)) w' r L er) :
    Calls Tryd.prog 46 #[.pointer (some ⟨r, 0, none⟩), .func (.func 47) #[] #[]] w fun x w' => x = .returned (.int .u64 (n : Int)) ∧ Told w w' r (L.extract k L.size) er := by
  have HE := hide (err_any r 0 L _ (hr.alloc (.cells #[.pointer (some ⟨r, 0, none⟩)] 67)))
  have HA := hide hA
  have hlt := hr.lt
  have hne : ¬ r = w.heap.size := by omega
  have hc0 : (w.alloc (.cells #[.pointer (some ⟨r, 0, none⟩)] 67)).cell? ⟨r, 0, none⟩ = some (.string L) := (hr.alloc _).cell0
  clear hr hA
  go_enter Tryd.func46, Tryd.ntmps46
  go_wp2_with (first
    | (go_at_call 64; refine (unhide HE).mono ?_; rintro x w' ⟨rfl, rfl⟩)
    | (go_at_call 47; refine (unhide HA).mono ?_; rintro x w' ⟨rfl, ht⟩; have hb0 := ht.2.cell0; have hf0 := ht.2.free 0; have hbx := ht.box hlt; have HT := hide ht; clear ht))
  go_region
  all_goals go_wp2
  all_goals go_ret
  all_goals exact ⟨rfl, (unhide HT).left _⟩
end Go.Proofs.YtdkgifjmahkiaaaDoor.L4
