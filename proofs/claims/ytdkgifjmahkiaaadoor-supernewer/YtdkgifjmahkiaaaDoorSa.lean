/- What awake does: it answers true. -/
import Derived.Test.YtdkgifjmahkiaaaDoorSd
namespace Go.Proofs.YtdkgifjmahkiaaaDoor
open Go.ChangeShapes Go.WideShapes Go.ChangeAt Go.RowKit
open L4

set_option maxRecDepth 10000 in
set_option maxHeartbeats 2000000 in
theorem awake_any (w : World) (hT : Tab w) : Calls Tryd.prog 9 #[] w fun e w' => e = .returned (.bool true) ∧ Below w.heap.size w w' := by
  have hm : MayB 5 2 8 := ⟨⟨by decide, by decide⟩, ⟨by decide, by decide⟩, .inr ⟨by decide, by decide⟩⟩
  have h1 := fun W (hW : Tab W) => swrap_any 5 2 8 W hW
  have h2 := sopen_swrap hm
  have h3 := swrapR_size hm
  have h4 : (swrapR 5 2 8).2 = 0 := by rw [swrapR_ok hm]
  generalize swrapR 5 2 8 = A at *
  obtain ⟨S, E⟩ := A
  dsimp only at h2 h3 h4
  subst h4
  have h5 := fun W (hW : Tab W) => sopen_any S W hW
  rw [h2] at h5
  have h6 : ∀ W, Calls Tryd.prog 12 #[.int .i64 5] W fun e w' => e = .returned (.int .i64 1) ∧ w' = W := fun W => by
    have h := slot_any 5 W
    rw [show bits .and .i64 5 1 = 1 from and_one 5 (by decide)] at h
    exact h
  have HT := hide hT
  have H1 := hide h1
  have H5 := hide h5
  have H6 := hide h6
  clear hT h1 h2 h5 h6 hm
  go_enter Tryd.func9, Tryd.ntmps9
  go_wp2_with fail
  have HB0 := hide (Below.refl w.heap.size w)
  refine (unhide H1 _ ((unhide HT).below (unhide HB0))).mono ?_
  unfold wrapped
  rintro e w1 ⟨rfl, hb⟩
  have HB1 := hide (below_then (unhide HB0) hb)
  clear hb HB0 
  go_wp2_with fail
  refine (unhide H5 _ ((unhide HT).below (unhide HB1))).mono ?_
  unfold sopened
  rintro e w2 ⟨rfl, hb⟩
  have HB2 := hide (below_then (unhide HB1) hb)
  clear hb HB1 
  have HB3 := hide (below_then (unhide HB2) (b_alloc w2 (.cells #[.int .i64 5, .int .i64 2, .int .i64 8] 23)))
  have X0 := hide (Bk.new w2 (.int .i64 5) (.int .i64 2) (.int .i64 8) 23)
  clear HB2 
  obtain ⟨c00, c01, c02, _⟩ := (unhide X0).cells
  go_wp2_with (go_at_call 12; refine (unhide H6 _).mono ?_; rintro e wz ⟨rfl, hw⟩; subst hw)
  go_ret
  exact ⟨rfl, unhide HB3⟩
end Go.Proofs.YtdkgifjmahkiaaaDoor
