/- There and back: what is read of what was written, one behind the other. -/
import Derived.Test.YtnjdkocpfcodfaaCuts
namespace Go.Proofs.Ytnjdkocpfcodfaa
open Go.ChangeShapes Go.WideShapes Go.ChangeAt Go.RowKit

def front (f : Nat → List Nat) (k : Nat) : List Nat := (List.range k).flatMap f
def rest (f : Nat → List Nat) (n k : Nat) : List Nat := ((List.range n).drop k).flatMap f
theorem front_zero (f : Nat → List Nat) : front f 0 = [] := rfl
theorem front_succ (f : Nat → List Nat) (k : Nat) : front f (k + 1) = front f k ++ f k := by
  unfold front
  rw [List.range_succ, List.flatMap_append]
  simp
theorem front_rest (f : Nat → List Nat) (n : Nat) : front f n = rest f n 0 := rfl
theorem rest_step (f : Nat → List Nat) (n k : Nat) (h : k < n) : rest f n k = f k ++ rest f n (k + 1) := by
  unfold rest
  rw [List.drop_eq_getElem_cons (by rw [List.length_range]; exact h), List.flatMap_cons, List.getElem_range]
theorem rest_end (f : Nat → List Nat) (n : Nat) : rest f n n = [] := by
  unfold rest
  rw [List.drop_of_length_le (by rw [List.length_range]; exact Nat.le_refl _)]
  rfl

theorem bn_back (L : ByteArray) (k : Nat) : bn (L.extract k L.size) = (bn L).drop k := by
  rw [bn_extract, List.take_of_length_le]
  rw [List.length_drop, bn_length]
  exact Nat.le_refl _
theorem read_fixed (L : ByteArray) (n : Nat) (r : List Nat) (h : bn L = Pk.fixL n ++ r) (hn : n < 18446744073709551616) : fixedR L 0 = (n, L.extract 8 L.size, 0) ∧ bn (L.extract 8 L.size) = r := by
  have hz : L.size = 8 + r.length := by rw [← bn_length, h, List.length_append]; rfl
  refine ⟨?_, ?_⟩
  · unfold fixedR
    rw [if_neg (by simp), if_neg (by omega), h, List.take_append_of_le_length (by exact Nat.le_refl 8), List.take_of_length_le (by exact Nat.le_refl 8), Pk.fixN_fixL n hn]
  · rw [bn_back, h, List.drop_append_of_le_length (by exact Nat.le_refl 8)]
    rfl
theorem read_short (L : ByteArray) (n : Nat) (r : List Nat) (h : bn L = Pk.shL n ++ r) (hn : n < 18446744073709551616) : ∃ L1, shortR L 0 = (n, L1, 0) ∧ bn L1 = r ∧ L1.size ≤ L.size := by
  have e := Pk.scan_back n r hn
  refine ⟨L.extract (Pk.shL n).length L.size, ?_, ?_, by rw [ByteArray.size_extract]; omega⟩
  · unfold shortR
    rw [if_neg (by simp), h, e]
  · rw [bn_back, h, List.drop_append_of_le_length (Nat.le_refl _), List.drop_of_length_le (Nat.le_refl _), List.nil_append]
theorem read_text (L t : ByteArray) (r : List Nat) (h : bn L = Pk.shL t.size ++ bn t ++ r) (ht : t.size ≤ 4096) : ∃ L1, textR L 0 (t.size : Int) = (t, L1, 0) ∧ bn L1 = r ∧ L1.size ≤ L.size := by
  have e : Pk.scan (bn L) = (t.size, (Pk.shL t.size).length, 0) := by
    rw [h, List.append_assoc]
    exact Pk.scan_back t.size _ (by omega)
  have hz : L.size = (Pk.shL t.size).length + t.size + r.length := by rw [← bn_length, h, List.length_append, List.length_append, bn_length]
  refine ⟨L.extract ((Pk.shL t.size).length + t.size) L.size, ?_, ?_, by rw [ByteArray.size_extract]; omega⟩
  · unfold textR
    rw [if_neg (by simp), textOf_ok e (by omega) (by omega)]
    have e2 : L.extract (Pk.shL t.size).length ((Pk.shL t.size).length + t.size) = t := by
      apply bn_inj
      rw [bn_extract, h, List.append_assoc, List.drop_append_of_le_length (Nat.le_refl _), List.drop_of_length_le (Nat.le_refl _), List.nil_append, Nat.add_sub_cancel_left, List.take_append_of_le_length (by rw [bn_length]; exact Nat.le_refl _), List.take_of_length_le (by rw [bn_length]; exact Nat.le_refl _)]
    rw [e2]
  · rw [bn_back, h]
    have : (Pk.shL t.size ++ bn t).length = (Pk.shL t.size).length + t.size := by rw [List.length_append, bn_length]
    rw [List.drop_append_of_le_length (by omega), List.drop_of_length_le (by omega), List.nil_append]
theorem read_last (L : ByteArray) (h : bn L = [122]) : leftR L 0 = 1 ∧ ∃ L1, byteR L 0 = (122, L1, 0) ∧ endR L1 0 = 0 ∧ L1.size ≤ 1000000 := by
  have hz : L.size = 1 := by rw [← bn_length, h]; rfl
  refine ⟨by unfold leftR; rw [if_neg (by simp), hz], L.extract 1 L.size, ?_, ?_, by rw [ByteArray.size_extract]; omega⟩
  · unfold byteR
    rw [if_neg (by simp), if_neg (by omega), h]
    rfl
  · unfold endR
    rw [if_neg (by simp), if_pos (by rw [ByteArray.size_extract]; omega)]

def numL (N : Nat → Nat) (k : Nat) : List Nat := Pk.fixL (N k) ++ Pk.shL (N k)
def txtL (T : Nat → ByteArray) (k : Nat) : List Nat := Pk.shL (T k).size ++ bn (T k)
theorem numL_le (N : Nat → Nat) (k : Nat) : (numL N k).length ≤ 18 := by
  have := Pk.shL_le (N k)
  unfold numL
  rw [List.length_append, Pk.fixL_length]
  omega
theorem front_num_le (N : Nat → Nat) (k : Nat) : (front (numL N) k).length ≤ k * 18 := by
  induction k with
  | zero => simp [front_zero]
  | succ k ih =>
    rw [front_succ, List.length_append]
    have := numL_le N k
    omega
theorem add_run (a b : ByteArray) (h : a.size + b.size ≤ 9000000) (w : World) : (Op.stringOp .add a b).run Try.prog w = .ok (.string (a ++ b)) w := by
  have hm : ¬ (((a.size + b.size : Nat) : Int) > IntKind.i64.max) := by
    rw [show IntKind.i64.max = 9223372036854775807 from rfl]
    omega
  unfold Op.stringOp
  simp only
  rw [if_neg hm]
  rfl
end Go.Proofs.Ytnjdkocpfcodfaa
