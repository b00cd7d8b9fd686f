/- What is read of beginnings of numbers' and texts' bytes; readers beside one another. -/
import Derived.Test.YtnjdkocpfcodfaaAwake
import Derived.Lib.Strings
namespace Go.Proofs.Ytnjdkocpfcodfaa
open Go.ChangeShapes Go.WideShapes Go.ChangeAt Go.RowKit

theorem bn_extract (s : ByteArray) (a b : Nat) : bn (s.extract a b) = ((bn s).drop a).take (b - a) := by
  unfold bn
  rw [Lib.extract_data, List.map_take, List.map_drop]
theorem bn_front (s : ByteArray) (j : Nat) : bn (s.extract 0 j) = (bn s).take j := by rw [bn_extract, List.drop_zero, Nat.sub_zero]
theorem size_front (s : ByteArray) (j : Nat) (h : j ≤ s.size) : (s.extract 0 j).size = j := by
  rw [← bn_length, bn_front, List.length_take, bn_length]
  omega

theorem fixed_cut (N j : Nat) (h : j < 8) : fixedR ((strOf (Pk.fixL N)).extract 0 j) 0 = (0, (strOf (Pk.fixL N)).extract 0 j, 20) := by
  have hz : ((strOf (Pk.fixL N)).extract 0 j).size < 8 := by
    rw [size_front _ _ (by rw [strOf_size]; show j ≤ 8; omega)]
    exact h
  unfold fixedR
  rw [if_neg (by simp), if_pos hz]
theorem short_cut (N j : Nat) (h : j < (Pk.shL N).length) : shortR ((strOf (Pk.shL N)).extract 0 j) 0 = (0, (strOf (Pk.shL N)).extract 0 j, 20) := by
  have hs : Pk.scan (bn ((strOf (Pk.shL N)).extract 0 j)) = (0, 0, 20) := by
    rw [bn_front, bn_strOf _ (Pk.shL_lt N)]
    exact Pk.scan_cut N j h
  unfold shortR
  rw [if_neg (by simp), hs, ext0]
theorem text_cut (s : ByteArray) (j : Nat) (h : j < (Pk.shL s.size).length + s.size) (hs : s.size ≤ 4096) :
    textR ((strOf (Pk.shL s.size) ++ s).extract 0 j) 0 1048576 = (⟨#[]⟩, (strOf (Pk.shL s.size) ++ s).extract 0 j, 20) := by
  have hz : ((strOf (Pk.shL s.size) ++ s).extract 0 j).size = j := size_front _ _ (by rw [ByteArray.size_append, strOf_size]; omega)
  have hb : bn ((strOf (Pk.shL s.size) ++ s).extract 0 j) = (Pk.shL s.size ++ bn s).take j := by rw [bn_front, bn_append, bn_strOf _ (Pk.shL_lt _)]
  have ht : textOf ((strOf (Pk.shL s.size) ++ s).extract 0 j) 1048576 = (⟨#[]⟩, 0, 20) := by
    by_cases hj : j < (Pk.shL s.size).length
    · have e : Pk.scan (bn ((strOf (Pk.shL s.size) ++ s).extract 0 j)) = (0, 0, 20) := by
        rw [hb, List.take_append_of_le_length (by omega)]
        exact Pk.scan_cut _ j hj
      exact textOf_bad _ e (by decide)
    · have e : Pk.scan (bn ((strOf (Pk.shL s.size) ++ s).extract 0 j)) = (s.size, (Pk.shL s.size).length, 0) := by
        rw [hb, List.take_append, List.take_of_length_le (by omega)]
        exact Pk.scan_back s.size _ (by omega)
      exact textOf_short e (by omega) (by rw [hz]; omega)
  unfold textR
  rw [if_neg (by simp), ht, ext0]

/-- another reader stays -/
theorem Rd.other {w w' : World} {q r e : Nat} {L : ByteArray} (h : Rd w q L e) (hg : w.grownBy w' (some r)) (hne : q ≠ r) : Rd w' q L e :=
  (hg.block q h.lt (fun e => hne (Option.some.inj e))).trans h

/-- Read, with a letter for where the reader lies -/
theorem read_new (s : ByteArray) (w : World) :
    Calls Try.prog 17 #[.string s] w fun x w' => ∃ g, x = .returned (.pointer (some ⟨g, 0, none⟩)) ∧ w.heap.size ≤ g ∧ g < w'.heap.size ∧ Rd w' g s 0 ∧ Below w.heap.size w w' := by
  refine (read_any s w).mono ?_
  rintro x w' ⟨rfl, rfl⟩
  exact ⟨_, rfl, Nat.le_refl _, by simp, Rd.new w s, (Below.refl _ _).alloc (Nat.le_refl _) _⟩
end Go.Proofs.Ytnjdkocpfcodfaa
