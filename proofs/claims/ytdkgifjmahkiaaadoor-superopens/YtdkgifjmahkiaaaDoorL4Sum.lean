/- What block's sum does: the sum of a text in four bytes. -/
import Derived.Test.YtdkgifjmahkiaaaDoorL4Step
import Derived.Test.YtdkgifjmahkiaaaDoorL4Blk
namespace Go.Proofs.YtdkgifjmahkiaaaDoor.L4
open Go.ChangeShapes Go.WideShapes Go.ChangeAt Go.RowKit

theorem four_conv (w : World) (a b c d : Int) :
    (convert 52 9 (.slice (some ⟨w.heap.size, 0, none⟩) 4 4)).run Tryd.prog (w.alloc (.cells #[.int .u8 a, .int .u8 b, .int .u8 c, .int .u8 d] 5)) = .ok (.string (strOfNums [a, b, c, d])) (w.alloc (.cells #[.int .u8 a, .int .u8 b, .int .u8 c, .int .u8 d] 5)) :=
  run_convert_bytes_arg _ 52 5 Tryd.underlying52 Tryd.underlying5 w.heap.size 0 4 4 [a, b, c, d] (by simp) (fun i hi => by
    have e : i = 0 ∨ i = 1 ∨ i = 2 ∨ i = 3 := by omega
    rcases e with rfl | rfl | rfl | rfl <;> simp) 9 Tryd.underlying9
theorem four_le (c : Nat) {x y z u : Int} (hx : x = ((c % 256 : Nat) : Int)) (hy : y = ((c / 256 % 256 : Nat) : Int)) (hz : z = ((c / 65536 % 256 : Nat) : Int)) (hu : u = ((c / 16777216 % 256 : Nat) : Int)) :
    strOfNums [x, y, z, u] = strOf (Blk.le4 c) := by
  rw [hx, hy, hz, hu]
  rfl
theorem ret_str {a b : ByteArray} (h : a = b) : Ending.returned (.string a) = .returned (.string b) := by rw [h]

set_option maxHeartbeats 400000 in
theorem sumOf_any (s : ByteArray) (w : World) (hT : Tab w) (hs : s.size ≤ maxLen) :
    Calls Tryd.prog 31 #[.string s] w fun e w' => e = .returned (.string (strOf (Blk.le4 (Crc.sum (bn s))))) ∧ Below w.heap.size w w' := by
  have hc := Crc.sum_lt (bn s) (bn_lt s)
  have HS := hide (text_any s w hT hs)
  have hv := four_conv w
  clear hT
  generalize Crc.sum (bn s) = c at *
  go_enter Tryd.func31, Tryd.ntmps31
  go_wp2_with (go_at_call 42; refine (unhide HS).mono ?_; rintro e w' ⟨rfl, hw⟩; have hw := hw.symm; subst hw)
  go_ret
  exact ⟨ret_str (four_le c (by omega) (by omega) (by omega) (by omega)), (Below.refl _ _).alloc (Nat.le_refl _) _⟩
end Go.Proofs.YtdkgifjmahkiaaaDoor.L4
