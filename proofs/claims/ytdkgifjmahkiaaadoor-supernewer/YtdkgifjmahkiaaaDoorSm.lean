/- What a super's small functions do: mayBe, Right, Slot. -/
import Derived.Test.YtdkgifjmahkiaaaDoorL4Reader
import Derived.Test.YtdkgifjmahkiaaaDoorL4Refreader
namespace Go.Proofs.YtdkgifjmahkiaaaDoor
open Go.ChangeShapes Go.WideShapes Go.ChangeAt Go.RowKit
open L4

/-- THE DOCUMENT's: a super may be so -/
abbrev MayB (G R S : Int) : Prop := (0 ≤ G ∧ G ≤ 1152921504606846976) ∧ (8 ≤ S ∧ S ≤ 4096) ∧ (R = 0 ∨ (2 ≤ R ∧ R < S))
/-- a block of three cells -/
def Bk (w : World) (b : Nat) (x y z : Value) (t : TypeId) : Prop := w.heap[b]? = some (.cells #[x, y, z] t (0, 0))
theorem Bk.lt {w : World} {b : Nat} {x y z : Value} {t : TypeId} (h : Bk w b x y z t) : b < w.heap.size := (Array.getElem?_eq_some_iff.1 h).1
theorem Bk.then {w w' : World} {b : Nat} {x y z : Value} {t : TypeId} (h : Bk w b x y z t) (hb : Below w.heap.size w w') : Bk w' b x y z t := (hb.block b h.lt).trans h
theorem Bk.cells {w : World} {b : Nat} {x y z : Value} {t : TypeId} (h : Bk w b x y z t) : w.cell? ⟨b, 0, none⟩ = some x ∧ w.cell? ⟨b, 1, none⟩ = some y ∧ w.cell? ⟨b, 2, none⟩ = some z ∧ ∀ i, w.frozen? ⟨b, i, none⟩ = false := by
  unfold Bk at h
  refine ⟨?_, ?_, ?_, fun i => ?_⟩
  · simp [World.cell?, h]
  · simp [World.cell?, h]
  · simp [World.cell?, h]
  · simp [World.frozen?, h]
theorem Bk.new (w : World) (x y z : Value) (t : TypeId) : Bk (w.alloc (.cells #[x, y, z] t)) w.heap.size x y z t := heap_alloc_new w _
theorem Bk.set {w : World} {b : Nat} {x y z : Value} {t : TypeId} (h : Bk w b x y z t) (x' y' z' : Value) : Bk (((w.setCell ⟨b, 0, none⟩ x').setCell ⟨b, 1, none⟩ y').setCell ⟨b, 2, none⟩ z') b x' y' z' t := by
  unfold Bk at *
  simp [World.setCell, Array.getElem?_modify, h]
theorem b_alloc (w : World) (o : Obj) : Below w.heap.size w (w.alloc o) := (Below.refl _ _).alloc (Nat.le_refl _) _

/- mayBe -/
set_option maxHeartbeats 4000000 in
theorem maybe_any (G R S : Int) (w : World) : Calls Tryd.prog 18 #[.agg #[.int .i64 G, .int .i64 R, .int .i64 S]] w fun e w' => e = .returned (.bool (decide (MayB G R S))) ∧ Below w.heap.size w w' := by
  have key2 : (R = 0) ∨ (¬ R = 0 ∧ R < 2) ∨ (¬ R = 0 ∧ 2 ≤ R ∧ R < S) ∨ (¬ R = 0 ∧ 2 ≤ R ∧ S ≤ R) := by omega
  have key : (G < 0) ∨ (0 ≤ G ∧ 1152921504606846976 < G) ∨ (0 ≤ G ∧ G ≤ 1152921504606846976 ∧ S < 8) ∨ (0 ≤ G ∧ G ≤ 1152921504606846976 ∧ 8 ≤ S ∧ 4096 < S) ∨ (0 ≤ G ∧ G ≤ 1152921504606846976 ∧ 8 ≤ S ∧ S ≤ 4096) := by omega
  rcases key2 with rfl | ⟨k1, k2⟩ | ⟨k1, k2, k3⟩ | ⟨k1, k2, k3⟩ <;> rcases key with h1 | ⟨h1, h2⟩ | ⟨h1, h2, h3⟩ | ⟨h1, h2, h3, h4⟩ | ⟨h1, h2, h3, h4⟩
  · rw [decide_eq_false (p := MayB _ _ _) (by unfold MayB; omega)]
    go_enter Tryd.func18, Tryd.ntmps18
    go_wp2
    go_ret
    exact ⟨rfl, b_alloc _ _⟩
  · rw [decide_eq_false (p := MayB _ _ _) (by unfold MayB; omega)]
    go_enter Tryd.func18, Tryd.ntmps18
    go_wp2
    go_ret
    exact ⟨rfl, b_alloc _ _⟩
  · rw [decide_eq_false (p := MayB _ _ _) (by unfold MayB; omega)]
    go_enter Tryd.func18, Tryd.ntmps18
    go_wp2
    go_ret
    exact ⟨rfl, b_alloc _ _⟩
  · rw [decide_eq_false (p := MayB _ _ _) (by unfold MayB; omega)]
    go_enter Tryd.func18, Tryd.ntmps18
    go_wp2
    go_ret
    exact ⟨rfl, b_alloc _ _⟩
  · rw [decide_eq_true (p := MayB _ _ _) (by unfold MayB; omega)]
    go_enter Tryd.func18, Tryd.ntmps18
    go_wp2
    go_ret
    exact ⟨rfl, b_alloc _ _⟩
  · rw [decide_eq_false (p := MayB _ _ _) (by unfold MayB; omega)]
    have k0 : (R == 0) = false := beq_eq_false_iff_ne.2 k1
    clear k1
    go_enter Tryd.func18, Tryd.ntmps18
    go_wp2
    go_ret
    exact ⟨rfl, b_alloc _ _⟩
  · rw [decide_eq_false (p := MayB _ _ _) (by unfold MayB; omega)]
    have k0 : (R == 0) = false := beq_eq_false_iff_ne.2 k1
    clear k1
    go_enter Tryd.func18, Tryd.ntmps18
    go_wp2
    go_ret
    exact ⟨rfl, b_alloc _ _⟩
  · rw [decide_eq_false (p := MayB _ _ _) (by unfold MayB; omega)]
    have k0 : (R == 0) = false := beq_eq_false_iff_ne.2 k1
    clear k1
    go_enter Tryd.func18, Tryd.ntmps18
    go_wp2
    go_ret
    exact ⟨rfl, b_alloc _ _⟩
  · rw [decide_eq_false (p := MayB _ _ _) (by unfold MayB; omega)]
    have k0 : (R == 0) = false := beq_eq_false_iff_ne.2 k1
    clear k1
    go_enter Tryd.func18, Tryd.ntmps18
    go_wp2
    go_ret
    exact ⟨rfl, b_alloc _ _⟩
  · rw [decide_eq_false (p := MayB _ _ _) (by unfold MayB; omega)]
    have k0 : (R == 0) = false := beq_eq_false_iff_ne.2 k1
    clear k1
    go_enter Tryd.func18, Tryd.ntmps18
    go_wp2
    go_ret
    exact ⟨rfl, b_alloc _ _⟩
  · rw [decide_eq_false (p := MayB _ _ _) (by unfold MayB; omega)]
    have k0 : (R == 0) = false := beq_eq_false_iff_ne.2 k1
    clear k1
    go_enter Tryd.func18, Tryd.ntmps18
    go_wp2
    go_ret
    exact ⟨rfl, b_alloc _ _⟩
  · rw [decide_eq_false (p := MayB _ _ _) (by unfold MayB; omega)]
    have k0 : (R == 0) = false := beq_eq_false_iff_ne.2 k1
    clear k1
    go_enter Tryd.func18, Tryd.ntmps18
    go_wp2
    go_ret
    exact ⟨rfl, b_alloc _ _⟩
  · rw [decide_eq_false (p := MayB _ _ _) (by unfold MayB; omega)]
    have k0 : (R == 0) = false := beq_eq_false_iff_ne.2 k1
    clear k1
    go_enter Tryd.func18, Tryd.ntmps18
    go_wp2
    go_ret
    exact ⟨rfl, b_alloc _ _⟩
  · rw [decide_eq_false (p := MayB _ _ _) (by unfold MayB; omega)]
    have k0 : (R == 0) = false := beq_eq_false_iff_ne.2 k1
    clear k1
    go_enter Tryd.func18, Tryd.ntmps18
    go_wp2
    go_ret
    exact ⟨rfl, b_alloc _ _⟩
  · rw [decide_eq_true (p := MayB _ _ _) (by unfold MayB; omega)]
    have k0 : (R == 0) = false := beq_eq_false_iff_ne.2 k1
    clear k1
    go_enter Tryd.func18, Tryd.ntmps18
    go_wp2
    go_ret
    exact ⟨rfl, b_alloc _ _⟩
  · rw [decide_eq_false (p := MayB _ _ _) (by unfold MayB; omega)]
    have k4 : decide (R < S) = false := decide_eq_false (by omega)
    have k0 : (R == 0) = false := beq_eq_false_iff_ne.2 k1
    clear k1
    go_enter Tryd.func18, Tryd.ntmps18
    go_wp2
    go_ret
    exact ⟨rfl, b_alloc _ _⟩
  · rw [decide_eq_false (p := MayB _ _ _) (by unfold MayB; omega)]
    have k4 : decide (R < S) = false := decide_eq_false (by omega)
    have k0 : (R == 0) = false := beq_eq_false_iff_ne.2 k1
    clear k1
    go_enter Tryd.func18, Tryd.ntmps18
    go_wp2
    go_ret
    exact ⟨rfl, b_alloc _ _⟩
  · rw [decide_eq_false (p := MayB _ _ _) (by unfold MayB; omega)]
    have k4 : decide (R < S) = false := decide_eq_false (by omega)
    have k0 : (R == 0) = false := beq_eq_false_iff_ne.2 k1
    clear k1
    go_enter Tryd.func18, Tryd.ntmps18
    go_wp2
    go_ret
    exact ⟨rfl, b_alloc _ _⟩
  · rw [decide_eq_false (p := MayB _ _ _) (by unfold MayB; omega)]
    have k4 : decide (R < S) = false := decide_eq_false (by omega)
    have k0 : (R == 0) = false := beq_eq_false_iff_ne.2 k1
    clear k1
    go_enter Tryd.func18, Tryd.ntmps18
    go_wp2
    go_ret
    exact ⟨rfl, b_alloc _ _⟩
  · rw [decide_eq_false (p := MayB _ _ _) (by unfold MayB; omega)]
    have k4 : decide (R < S) = false := decide_eq_false (by omega)
    have k0 : (R == 0) = false := beq_eq_false_iff_ne.2 k1
    clear k1
    go_enter Tryd.func18, Tryd.ntmps18
    go_wp2
    go_ret
    exact ⟨rfl, b_alloc _ _⟩
/- the document's Right -/
set_option maxHeartbeats 4000000 in
theorem right_any (G R S : Int) (w : World) : Calls Tryd.prog 21 #[.agg #[.int .i64 G, .int .i64 R, .int .i64 S]] w fun e w' => e = .returned (.bool (decide (MayB G R S))) ∧ Below w.heap.size w w' := by
  have key2 : (R = 0) ∨ (¬ R = 0 ∧ R < 2) ∨ (¬ R = 0 ∧ 2 ≤ R ∧ R < S) ∨ (¬ R = 0 ∧ 2 ≤ R ∧ S ≤ R) := by omega
  have key : (G < 0) ∨ (0 ≤ G ∧ 1152921504606846976 < G) ∨ (0 ≤ G ∧ G ≤ 1152921504606846976 ∧ S < 8) ∨ (0 ≤ G ∧ G ≤ 1152921504606846976 ∧ 8 ≤ S ∧ 4096 < S) ∨ (0 ≤ G ∧ G ≤ 1152921504606846976 ∧ 8 ≤ S ∧ S ≤ 4096) := by omega
  rcases key2 with rfl | ⟨k1, k2⟩ | ⟨k1, k2, k3⟩ | ⟨k1, k2, k3⟩ <;> rcases key with h1 | ⟨h1, h2⟩ | ⟨h1, h2, h3⟩ | ⟨h1, h2, h3, h4⟩ | ⟨h1, h2, h3, h4⟩
  · rw [decide_eq_false (p := MayB _ _ _) (by unfold MayB; omega)]
    go_enter Tryd.func21, Tryd.ntmps21
    go_wp2
    go_ret
    exact ⟨rfl, b_alloc _ _⟩
  · rw [decide_eq_false (p := MayB _ _ _) (by unfold MayB; omega)]
    go_enter Tryd.func21, Tryd.ntmps21
    go_wp2
    go_ret
    exact ⟨rfl, b_alloc _ _⟩
  · rw [decide_eq_false (p := MayB _ _ _) (by unfold MayB; omega)]
    go_enter Tryd.func21, Tryd.ntmps21
    go_wp2
    go_ret
    exact ⟨rfl, b_alloc _ _⟩
  · rw [decide_eq_false (p := MayB _ _ _) (by unfold MayB; omega)]
    go_enter Tryd.func21, Tryd.ntmps21
    go_wp2
    go_ret
    exact ⟨rfl, b_alloc _ _⟩
  · rw [decide_eq_true (p := MayB _ _ _) (by unfold MayB; omega)]
    go_enter Tryd.func21, Tryd.ntmps21
    go_wp2
    go_ret
    exact ⟨rfl, b_alloc _ _⟩
  · rw [decide_eq_false (p := MayB _ _ _) (by unfold MayB; omega)]
    have k0 : (R == 0) = false := beq_eq_false_iff_ne.2 k1
    clear k1
    go_enter Tryd.func21, Tryd.ntmps21
    go_wp2
    go_ret
    exact ⟨rfl, b_alloc _ _⟩
  · rw [decide_eq_false (p := MayB _ _ _) (by unfold MayB; omega)]
    have k0 : (R == 0) = false := beq_eq_false_iff_ne.2 k1
    clear k1
    go_enter Tryd.func21, Tryd.ntmps21
    go_wp2
    go_ret
    exact ⟨rfl, b_alloc _ _⟩
  · rw [decide_eq_false (p := MayB _ _ _) (by unfold MayB; omega)]
    have k0 : (R == 0) = false := beq_eq_false_iff_ne.2 k1
    clear k1
    go_enter Tryd.func21, Tryd.ntmps21
    go_wp2
    go_ret
    exact ⟨rfl, b_alloc _ _⟩
  · rw [decide_eq_false (p := MayB _ _ _) (by unfold MayB; omega)]
    have k0 : (R == 0) = false := beq_eq_false_iff_ne.2 k1
    clear k1
    go_enter Tryd.func21, Tryd.ntmps21
    go_wp2
    go_ret
    exact ⟨rfl, b_alloc _ _⟩
  · rw [decide_eq_false (p := MayB _ _ _) (by unfold MayB; omega)]
    have k0 : (R == 0) = false := beq_eq_false_iff_ne.2 k1
    clear k1
    go_enter Tryd.func21, Tryd.ntmps21
    go_wp2
    go_ret
    exact ⟨rfl, b_alloc _ _⟩
  · rw [decide_eq_false (p := MayB _ _ _) (by unfold MayB; omega)]
    have k0 : (R == 0) = false := beq_eq_false_iff_ne.2 k1
    clear k1
    go_enter Tryd.func21, Tryd.ntmps21
    go_wp2
    go_ret
    exact ⟨rfl, b_alloc _ _⟩
  · rw [decide_eq_false (p := MayB _ _ _) (by unfold MayB; omega)]
    have k0 : (R == 0) = false := beq_eq_false_iff_ne.2 k1
    clear k1
    go_enter Tryd.func21, Tryd.ntmps21
    go_wp2
    go_ret
    exact ⟨rfl, b_alloc _ _⟩
  · rw [decide_eq_false (p := MayB _ _ _) (by unfold MayB; omega)]
    have k0 : (R == 0) = false := beq_eq_false_iff_ne.2 k1
    clear k1
    go_enter Tryd.func21, Tryd.ntmps21
    go_wp2
    go_ret
    exact ⟨rfl, b_alloc _ _⟩
  · rw [decide_eq_false (p := MayB _ _ _) (by unfold MayB; omega)]
    have k0 : (R == 0) = false := beq_eq_false_iff_ne.2 k1
    clear k1
    go_enter Tryd.func21, Tryd.ntmps21
    go_wp2
    go_ret
    exact ⟨rfl, b_alloc _ _⟩
  · rw [decide_eq_true (p := MayB _ _ _) (by unfold MayB; omega)]
    have k0 : (R == 0) = false := beq_eq_false_iff_ne.2 k1
    clear k1
    go_enter Tryd.func21, Tryd.ntmps21
    go_wp2
    go_ret
    exact ⟨rfl, b_alloc _ _⟩
  · rw [decide_eq_false (p := MayB _ _ _) (by unfold MayB; omega)]
    have k4 : decide (R < S) = false := decide_eq_false (by omega)
    have k0 : (R == 0) = false := beq_eq_false_iff_ne.2 k1
    clear k1
    go_enter Tryd.func21, Tryd.ntmps21
    go_wp2
    go_ret
    exact ⟨rfl, b_alloc _ _⟩
  · rw [decide_eq_false (p := MayB _ _ _) (by unfold MayB; omega)]
    have k4 : decide (R < S) = false := decide_eq_false (by omega)
    have k0 : (R == 0) = false := beq_eq_false_iff_ne.2 k1
    clear k1
    go_enter Tryd.func21, Tryd.ntmps21
    go_wp2
    go_ret
    exact ⟨rfl, b_alloc _ _⟩
  · rw [decide_eq_false (p := MayB _ _ _) (by unfold MayB; omega)]
    have k4 : decide (R < S) = false := decide_eq_false (by omega)
    have k0 : (R == 0) = false := beq_eq_false_iff_ne.2 k1
    clear k1
    go_enter Tryd.func21, Tryd.ntmps21
    go_wp2
    go_ret
    exact ⟨rfl, b_alloc _ _⟩
  · rw [decide_eq_false (p := MayB _ _ _) (by unfold MayB; omega)]
    have k4 : decide (R < S) = false := decide_eq_false (by omega)
    have k0 : (R == 0) = false := beq_eq_false_iff_ne.2 k1
    clear k1
    go_enter Tryd.func21, Tryd.ntmps21
    go_wp2
    go_ret
    exact ⟨rfl, b_alloc _ _⟩
  · rw [decide_eq_false (p := MayB _ _ _) (by unfold MayB; omega)]
    have k4 : decide (R < S) = false := decide_eq_false (by omega)
    have k0 : (R == 0) = false := beq_eq_false_iff_ne.2 k1
    clear k1
    go_enter Tryd.func21, Tryd.ntmps21
    go_wp2
    go_ret
    exact ⟨rfl, b_alloc _ _⟩

theorem slot_any (G : Int) (w : World) : Calls Tryd.prog 12 #[.int .i64 G] w fun e w' => e = .returned (.int .i64 (bits .and .i64 G 1)) ∧ w' = w := by
  go_enter Tryd.func12, Tryd.ntmps12
  go_wp2
  go_ret
  exact ⟨rfl, rfl⟩
theorem and_one (n : Nat) (h : n < 9223372036854775808) : bits .and .i64 (n : Int) 1 = ((n % 2 : Nat) : Int) := by
  show IntKind.i64.wrap ((BitVec.ofInt 64 (n : Int) &&& BitVec.ofInt 64 1).toNat : Int) = _
  rw [BitVec.toNat_and, ofInt_u64 _ (by omega), show (BitVec.ofInt 64 1).toNat = 1 from rfl, Nat.and_one_is_mod, IntKind.wrap_i64]
  omega
end Go.Proofs.YtdkgifjmahkiaaaDoor
