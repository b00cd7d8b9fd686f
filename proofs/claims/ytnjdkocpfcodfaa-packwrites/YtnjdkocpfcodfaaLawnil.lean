/- The walks of the laws PackNil and PackWrites. -/
import Derived.Test.YtnjdkocpfcodfaaAwake
namespace Go.Proofs.Ytnjdkocpfcodfaa
open Go.ChangeShapes Go.WideShapes Go.ChangeAt Go.RowKit

set_option maxRecDepth 10000 in
set_option maxHeartbeats 1000000 in
theorem nil_walk (most : Int) (w : World) : Calls Try.prog 9 #[.int .i64 most] w fun e w' => e = .returned (.bool true) ∧ Below w.heap.size w w' := by
  go_enter Try.func9, Try.ntmps9
  go_wp2_with (first
    | (go_at_call 10; refine (awake_any _).mono ?_; rintro x w0 ⟨rfl, hb0⟩)
    | (go_at_call 18; refine (byte_nil _).mono ?_; rintro x w1 ⟨rfl, hb1⟩)
    | (go_at_call 20; refine (fixed_nil _).mono ?_; rintro x w2 ⟨rfl, hb2⟩)
    | (go_at_call 22; refine (short_nil _).mono ?_; rintro x w3 ⟨rfl, hb3⟩)
    | (go_at_call 24; refine (text_nil _ _).mono ?_; rintro x w4 ⟨rfl, hb4⟩)
    | (go_at_call 26; refine (left_nil _).mono ?_; rintro x w5 ⟨rfl, rfl⟩)
    | (go_at_call 28; refine (err_nil _).mono ?_; rintro x w6 ⟨rfl, rfl⟩)
    | (go_at_call 29; refine (end_nil _).mono ?_; rintro x w7 ⟨rfl, rfl⟩))
  go_ret
  exact ⟨rfl, below_then (below_then (below_then (below_then hb0 hb1) hb2) hb3) hb4⟩

set_option maxRecDepth 10000 in
set_option maxHeartbeats 1000000 in
theorem writes_walk (n : Int) (s : ByteArray) (w : World) (hn : 0 ≤ n ∧ n < 18446744073709551616) (hs : s.size ≤ maxLen) :
    Calls Try.prog 3 #[.int .u64 n, .string s] w fun e w' => e = .returned (.bool true) ∧ Below w.heap.size w w' := by
  unfold maxLen at hs
  by_cases hlong : 65536 < s.size
  · go_enter Try.func3, Try.ntmps3
    go_wp2_with (go_at_call 10; refine (awake_any _).mono ?_; rintro x w0 ⟨rfl, hb0⟩)
    go_ret
    exact ⟨rfl, hb0⟩
  · go_enter Try.func3, Try.ntmps3
    go_wp2_with (first
      | (go_at_call 10; refine (awake_any _).mono ?_; rintro x w0 ⟨rfl, hb0⟩)
      | (go_at_call 11; refine (fixed_any _ _ hn).mono ?_; rintro x w1 ⟨rfl, hb1⟩)
      | (go_at_call 12; refine (refFixed_any _ _ hn).mono ?_; rintro x w2 ⟨rfl, hb2⟩)
      | (go_at_call 13; refine (short_any _ _ hn).mono ?_; rintro x w3 ⟨rfl, hb3⟩)
      | (go_at_call 14; refine (refShort_any _ _ hn).mono ?_; rintro x w4 ⟨rfl, hb4⟩)
      | (go_at_call 15; refine (text_any _ _ (by omega)).mono ?_; rintro x w5 ⟨rfl, hb5⟩)
      | (go_at_call 16; refine (refText_any _ _ (by omega)).mono ?_; rintro x w6 ⟨rfl, hb6⟩))
    go_ret
    exact ⟨rfl, below_then (below_then (below_then (below_then (below_then (below_then hb0 hb1) hb2) hb3) hb4) hb5) hb6⟩
end Go.Proofs.Ytnjdkocpfcodfaa
