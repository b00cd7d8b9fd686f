/- usual answers so of any leaf. -/
import Derived.Test.YtdelobaiicoogaaGreatDoorUh
import Derived.Test.YtdelobaiicoogaaGreatDoorMbo
namespace Go.Proofs.YtdelobaiicoogaaGreatDoor
open Go.ChangeShapes Go.WideShapes Go.ChangeAt Go.RowKit
theorem usualOk : UsualOk := fun M B kc vc its l' ai ak ci ck w h5 h6 h7 h8 h9 hr hl ht hs hne hB hE => usual_any M B kc vc its l' ai ak ci ck w h5 h6 h7 h8 h9 hr hl ht hs hne hB hE
end Go.Proofs.YtdelobaiicoogaaGreatDoor
