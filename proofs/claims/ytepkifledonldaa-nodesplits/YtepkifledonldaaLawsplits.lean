/- The walk of the law NodeSplits. -/
import Derived.Test.YtepkifledonldaaLawspln
import Derived.Test.YtepkifledonldaaLawspli
import Derived.Test.YtepkifledonldaaLawsplk
namespace Go.Proofs.Ytepkifledonldaa
open Go.ChangeShapes Go.WideShapes Go.ChangeAt Go.RowKit

theorem splits_walk (n : Nd) (ai ak : Option Addr) (ci ck : Nat) (w : World) (hn : Has w n ai ak) (hl : Lens n) (hi : n.its.length ≤ ci) (hk : n.kds.length ≤ ck) :
    Calls Try.prog 7 #[.agg #[.bool n.leaf, .slice ai n.its.length ci, .slice ak n.kds.length ck]] w fun e w' => e = .returned (.bool true) ∧ Below w.heap.size w w' := by
  cases hr : rightB n with
  | false => exact splitsN n ai ak ci ck w hn hl hr
  | true =>
    obtain ⟨L, its, kds⟩ := n
    cases L with
    | true =>
      obtain ⟨rfl, _, _⟩ := right_leaf hr
      exact splitsI its ai ak ci ck w hn hl hi hr
    | false =>
      obtain ⟨rfl, _, _⟩ := right_kids hr
      exact splitsK kds ai ak ci ck w hn hl hk hr
end Go.Proofs.Ytepkifledonldaa
