/- Where pieces begin, where a place stands in one, which pieces bytes touch. -/
import Derived.Test.YtmpgaecnibakdaaDoorKi
namespace Go.Proofs.YtmpgaecnibakdaaDoor
open Go.ChangeShapes Go.WideShapes Go.ChangeAt Go.RowKit
attribute [local go_sem] Oper.semAt_some

theorem places_any (n : Int) (w : World) (h0 : 0 ≤ n) (h1 : n ≤ 4611686018427387904) : Calls Tryd.prog 31 #[.int .i64 n] w fun e w' => e = .returned (.int .i64 ((n + 63) / 64)) ∧ w' = w := by
  have e : n + 64 - 1 = n + 63 := by omega
  have hq : 0 ≤ (n + 63) / 64 := by omega
  go_enter Tryd.func31, Tryd.ntmps31
  go_wp2
  go_ret
  exact ⟨by first | rfl | exact ret_int (by omega), rfl⟩

theorem begin_any (ix : Int) (d : ByteArray) (w : World) (h0 : 0 ≤ ix) (h1 : ix ≤ 72057594037927936) : Calls Tryd.prog 28 #[.agg #[.int .i64 ix, .string d]] w fun e w' => e = .returned (.int .i64 (ix * 64)) ∧ Below w.heap.size w w' := by
  have HB := hide (b_alloc w (.cells #[.int .i64 ix, .string d] 58))
  go_enter Tryd.func28, Tryd.ntmps28
  go_wp2
  go_ret
  exact ⟨by first | rfl | exact ret_int (by omega), unhide HB⟩

set_option maxHeartbeats 1000000 in
theorem inside_any (ix : Int) (d : ByteArray) (place : Int) (w : World) (h0 : 0 ≤ ix) (h1 : ix ≤ 72057594037927936) (h2 : 0 ≤ place) (h3 : place ≤ 9223372036854775807) :
    Calls Tryd.prog 35 #[.agg #[.int .i64 ix, .string d], .int .i64 place] w fun e w' => e = .returned (.int .i64 (insI ix place : Int)) ∧ Below w.heap.size w w' := by
  have HB := hide (b_alloc w (.cells #[.int .i64 ix, .string d] 58))
  have HC := hide (fun W => begin_any ix d W h0 h1)
  go_enter Tryd.func35, Tryd.ntmps35
  go_wp2_with (go_at_call 28; refine (unhide HC _).mono ?_; rintro e w1 ⟨rfl, hb⟩; have HB1 := hide (below_then (unhide HB) hb); clear hb)
  go_ret
  exact ⟨ret_int (by unfold insI; omega), unhide HB1⟩

theorem below_any (size off n : Int) (w : World) (h0 : 0 ≤ size) (h1 : size ≤ 4611686018427387904) (h2 : 0 ≤ off) (h3 : off ≤ 9223372036854775807) (h4 : 0 ≤ n) (h5 : n ≤ 9223372036854775807) :
    Calls Tryd.prog 25 #[.int .i64 size, .int .i64 off, .int .i64 n] w fun e w' => e = .returned (.tuple #[.int .i64 (min off size), .int .i64 (min off size + min n (size - min off size))]) ∧ w' = w := by
  go_enter Tryd.func25, Tryd.ntmps25
  go_wp2
  go_ret2
  exact ⟨by first | rfl | (congr 3), rfl⟩
end Go.Proofs.YtmpgaecnibakdaaDoor
