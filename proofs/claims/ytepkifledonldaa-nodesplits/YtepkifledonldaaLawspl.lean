/- Parts of a node: small facts. -/
import Derived.Test.YtepkifledonldaaRefnone
namespace Go.Proofs.Ytepkifledonldaa
open Go.ChangeShapes Go.WideShapes Go.ChangeAt Go.RowKit

theorem part_len {α : Type} {PS : List (List α)} {p : List α} (h : p ∈ PS) : p.length ≤ PS.flatten.length := by
  induction PS with
  | nil => cases h
  | cons q t ih =>
    rw [List.flatten_cons, List.length_append]
    rcases List.mem_cons.1 h with rfl | h
    · omega
    · have := ih h
      omega
theorem take_len {α : Type} (PS : List (List α)) (k : Nat) : (PS.take k).flatten.length ≤ PS.flatten.length := by
  conv => rhs; rw [← List.take_append_drop k PS, List.flatten_append, List.length_append]
  omega
theorem take_next {α : Type} {PS : List (List α)} {k : Nat} {p : List α} (h : PS[k]? = some p) : (PS.take k).flatten ++ p = (PS.take (k + 1)).flatten := by
  rw [List.take_add_one, h, List.flatten_append]
  simp
theorem OwnE.joins {β : Type} {sv : β → Value} {T : TypeId} {B : Nat} {w : World} {v : Value} {l r : List (ByteArray × β)} (h : w.ownsRow B T 2 v (l.length + r.length) (pairs sv l ++ pairs sv r)) : OwnE sv T B w v (l ++ r) := by
  unfold OwnE
  rw [List.length_append]
  have e : pairs sv (l ++ r) = pairs sv l ++ pairs sv r := List.flatMap_append
  rw [e]
  exact h
end Go.Proofs.Ytepkifledonldaa
