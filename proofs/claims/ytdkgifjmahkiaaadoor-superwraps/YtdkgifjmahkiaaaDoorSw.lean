/- The walk of the law SuperWraps. -/
import Derived.Test.YtdkgifjmahkiaaaDoorSa
namespace Go.Proofs.YtdkgifjmahkiaaaDoor
open Go.ChangeShapes Go.WideShapes Go.ChangeAt Go.RowKit
open L4

set_option maxRecDepth 10000 in
set_option maxHeartbeats 2000000 in
theorem swraps_any (G R S : Int) (w : World) (hT : Tab w) : Calls Tryd.prog 3 #[.agg #[.int .i64 G, .int .i64 R, .int .i64 S]] w fun e w' => e = .returned (.bool true) ∧ Below w.heap.size w w' := by
  have hA := fun W (hW : Tab W) => awake_any W hW
  have h1 := fun W (hW : Tab W) => swrap_any G R S W hW
  have h2 := fun W (hW : Tab W) => rswrap_any G R S W hW
  have h3 := fun W => slot_any G W
  generalize swrapR G R S = A at *
  obtain ⟨t, E⟩ := A
  have HT := hide hT
  have HA := hide hA
  have H1 := hide h1
  have H2 := hide h2
  have H3 := hide h3
  clear hT hA h1 h2 h3
  go_enter Tryd.func3, Tryd.ntmps3
  go_wp2_with fail
  have HB0 := hide (b_alloc w (.cells #[.int .i64 G, .int .i64 R, .int .i64 S] 23))
  have X0 := hide (Bk.new w (.int .i64 G) (.int .i64 R) (.int .i64 S) 23)
  generalize w.alloc (.cells #[.int .i64 G, .int .i64 R, .int .i64 S] 23) = w0 at *
  refine (unhide HA _ ((unhide HT).below (unhide HB0))).mono ?_
  rintro e w1 ⟨rfl, hb⟩
  have HB1 := hide (below_then (unhide HB0) hb)
  have X0_1 := hide ((unhide X0).then hb)
  clear hb HB0 X0
  obtain ⟨c00, c01, c02, _⟩ := (unhide X0_1).cells
  go_wp2_with fail
  clear c00 c01 c02
  refine (unhide H1 _ ((unhide HT).below (unhide HB1))).mono ?_
  unfold wrapped
  rintro e w2 ⟨rfl, hb⟩
  have HB2 := hide (below_then (unhide HB1) hb)
  have X0_2 := hide ((unhide X0_1).then hb)
  clear hb HB1 X0_1
  obtain ⟨c00, c01, c02, _⟩ := (unhide X0_2).cells
  go_wp2_with fail
  clear c00 c01 c02
  refine (unhide H2 _ ((unhide HT).below (unhide HB2))).mono ?_
  unfold wrapped
  rintro e w3 ⟨rfl, hb⟩
  have HB3 := hide (below_then (unhide HB2) hb)
  have X0_3 := hide ((unhide X0_2).then hb)
  clear hb HB2 X0_2
  obtain ⟨c00, c01, c02, _⟩ := (unhide X0_3).cells
  go_wp2_with fail
  clear c00 c01 c02
  have H0 : Hid ((fun w' => Below w.heap.size w w' ∧ w'.cell? ⟨w.heap.size, 0, none⟩ = some (.int .i64 G)) w3.drew) := ⟨(unhide HB3).drew, (unhide X0_3).cells.1⟩
  go_region_held3 (fun w' => Below w.heap.size w w' ∧ w'.cell? ⟨w.heap.size, 0, none⟩ = some (.int .i64 G))
    (first | assumption | exact unhide H0)
    (first | (go_at_call 12; refine (unhide H3 _).mono ?_; rintro e wz ⟨rfl, hw⟩; subst hw))
  go_wp2
  go_ret
  exact ⟨rfl, (unhide H0).1⟩
end Go.Proofs.YtdkgifjmahkiaaaDoor
