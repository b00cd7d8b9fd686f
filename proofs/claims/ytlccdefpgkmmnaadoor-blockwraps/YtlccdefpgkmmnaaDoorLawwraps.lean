/- The walk of the law BlockWraps. -/
import Derived.Test.YtlccdefpgkmmnaaDoorAwake
import Derived.Test.YtlccdefpgkmmnaaDoorRefwrap
namespace Go.Proofs.YtlccdefpgkmmnaaDoor
open Go.ChangeShapes Go.WideShapes Go.ChangeAt Go.RowKit

set_option maxRecDepth 10000 in
set_option maxHeartbeats 1000000 in
theorem wraps_any (K G : Int) (P : ByteArray) (w : World) (hT : Tab w) (hP : P.size ≤ 9223372036854775807) :
    Calls Tryd.prog 3 #[.agg #[.int .i64 K, .int .i64 G, .string P]] w fun e w' => e = .returned (.bool true) ∧ Below w.heap.size w w' := by
  have hX := Box.new w (.int .i64 K) (.int .i64 G) (.string P)
  have h8 := awake_any _ (hT.below hX.1)
  have h1 := fun w' (h' : Tab w') => wrap_any K G P w' h'
  have h2 := fun w' (h' : Tab w') => rwrap_any K G P w' h'
  generalize wrapR K G P = T at *
  obtain ⟨S, E⟩ := T
  have H8 := hide h8
  have H1 := hide h1
  have H2 := hide h2
  have HT := hide hT
  have HX := hide hX
  clear h8 h1 h2 hT hX
  by_cases hbig : 16384 < P.size
  · go_enter Tryd.func3, Tryd.ntmps3
    go_wp2_with (go_at_call 8; refine (unhide H8).mono ?_; rintro e w1 ⟨rfl, hb1⟩; have X1 := hide ((unhide HX).then hb1); obtain ⟨b1, c0, c1, c2⟩ := unhide X1)
    go_ret
    exact ⟨rfl, b1⟩
  · go_enter Tryd.func3, Tryd.ntmps3
    go_wp2_with (first
      | (go_at_call 8; refine (unhide H8).mono ?_; rintro e w1 ⟨rfl, hb1⟩; have X1 := hide ((unhide HX).then hb1); obtain ⟨b1, c0, c1, c2⟩ := unhide X1)
      | (go_at_call 9; refine (unhide H1 _ ((unhide HT).below b1)).mono ?_; rintro e w2 ⟨rfl, hb2⟩; have X2 := hide ((unhide X1).then hb2); clear c0 c1 c2; obtain ⟨b2, c0, c1, c2⟩ := unhide X2)
      | (go_at_call 10; refine (unhide H2 _ ((unhide HT).below b2)).mono ?_; rintro e w3 ⟨rfl, hb3⟩))
    go_ret
    exact ⟨rfl, below_then b2 hb3⟩
end Go.Proofs.YtlccdefpgkmmnaaDoor
