/- What the two Fixeds do: a fixed number's bytes. -/
import Derived.Test.YtdkgifjmahkiaaaDoorL4Kit
import Derived.LoopN
namespace Go.Proofs.YtdkgifjmahkiaaaDoor.L4
open Go.ChangeShapes Go.WideShapes Go.ChangeAt Go.RowKit

theorem fixed_conv (N : Nat) (hN : N < 18446744073709551616) (w : World) :
    (convert 52 9 (.slice (some ⟨w.heap.size, 0, none⟩) 8 8)).run Tryd.prog (w.alloc (.cells #[.int .u8 ((N : Int) / 72057594037927936), .int .u8 ((N : Int) / 281474976710656 % 256), .int .u8 ((N : Int) / 1099511627776 % 256), .int .u8 ((N : Int) / 4294967296 % 256),
        .int .u8 ((N : Int) / 16777216 % 256), .int .u8 ((N : Int) / 65536 % 256), .int .u8 ((N : Int) / 256 % 256), .int .u8 ((N : Int) % 256)] 70)) =
      .ok (.string (strOf (Pk.fixL N))) (w.alloc (.cells #[.int .u8 ((N : Int) / 72057594037927936), .int .u8 ((N : Int) / 281474976710656 % 256), .int .u8 ((N : Int) / 1099511627776 % 256), .int .u8 ((N : Int) / 4294967296 % 256),
        .int .u8 ((N : Int) / 16777216 % 256), .int .u8 ((N : Int) / 65536 % 256), .int .u8 ((N : Int) / 256 % 256), .int .u8 ((N : Int) % 256)] 70)) := by
  refine conv_row w.heap.size 8 (Pk.fixL N) _ (fun i hi => ?_)
  have hi8 : i < 8 := hi
  have d : ∀ i : Nat, i < 8 → i = 0 ∨ i = 1 ∨ i = 2 ∨ i = 3 ∨ i = 4 ∨ i = 5 ∨ i = 6 ∨ i = 7 := by omega
  rcases d i hi8 with rfl | rfl | rfl | rfl | rfl | rfl | rfl | rfl <;> simp [Pk.fixL]
  omega

set_option maxRecDepth 10000 in
set_option maxHeartbeats 1000000 in
theorem fixed_any (n : Int) (w : World) (hn : 0 ≤ n ∧ n < 18446744073709551616) :
    Calls Tryd.prog 29 #[.int .u64 n] w fun e w' => e = .returned (.string (strOf (Pk.fixL n.toNat))) ∧ Below w.heap.size w w' := by
  obtain ⟨N, rfl⟩ := Int.eq_ofNat_of_zero_le hn.1
  have hN : N < 18446744073709551616 := by omega
  rw [Int.toNat_natCast]
  have hcv := fixed_conv N hN w
  go_enter Tryd.func29, Tryd.ntmps29
  go_wp2
  refine wp_loop_rounds 9 ?_
  rw [rounds_succ]
  go_wp2
  iterate 8 (rw [rounds_succ]; go_wp2)
  go_ret
  exact ⟨rfl, (Below.refl _ _).alloc (Nat.le_refl _) _⟩

theorem strOf_append (l r : List Nat) : strOf (l ++ r) = strOf l ++ strOf r := by
  apply ByteArray.ext
  apply Array.toList_inj.1
  rw [ByteArray.data_append, Array.toList_append]
  unfold strOf
  simp only [strOfNums_data, List.map_append]
theorem strOf_one (x : Nat) : strOfNums [(x : Int)] = strOf [x] := rfl

theorem one_conv (w : World) (x : Int) :
    (convert 52 9 (.slice (some ⟨w.heap.size, 0, none⟩) 1 1)).run Tryd.prog (w.alloc (.cells #[.int .u8 x] 5)) = .ok (.string (strOfNums [x])) (w.alloc (.cells #[.int .u8 x] 5)) :=
  run_convert_bytes_arg _ 52 5 Tryd.underlying52 Tryd.underlying5 w.heap.size 0 1 1 [x] (by simp) (fun i hi => by
    have : i = 0 := by omega
    subst this
    simp) 9 Tryd.underlying9

theorem fixed_step (N j : Nat) (x : Int) (hj : j < 8) (hx : x = ((Pk.fixL N).getD j 0 : Nat)) : strOf ((Pk.fixL N).take j) ++ strOfNums [x] = strOf ((Pk.fixL N).take (j + 1)) := by
  have h8 : j < (Pk.fixL N).length := hj
  rw [hx, strOf_one, ← strOf_append, List.take_succ_eq_append_getElem h8, List.getD_eq_getElem?_getD, List.getElem?_eq_getElem h8]
  rfl

set_option maxRecDepth 10000 in
set_option maxHeartbeats 2000000 in
theorem refFixed_any (n : Int) (w : World) (hn : 0 ≤ n ∧ n < 18446744073709551616) :
    Calls Tryd.prog 22 #[.int .u64 n] w fun e w' => e = .returned (.string (strOf (Pk.fixL n.toNat))) ∧ Below w.heap.size w w' := by
  obtain ⟨N, rfl⟩ := Int.eq_ofNat_of_zero_le hn.1
  have hN : N < 18446744073709551616 := by omega
  rw [Int.toNat_natCast]
  generalize hB : w.heap.size = B at *
  have HB := hide hB
  clear hB
  have hz1 : ∀ x : Int, (strOfNums [x]).size = 1 := fun x => by rw [strOfNums_size]; rfl
  go_enter Tryd.func22, Tryd.ntmps22
  go_wp2
  go_loopw [3, 4] (fun t k wr => ∃ j : Nat, j ≤ 8 ∧ k = .int .i64 (56 - 8 * j) ∧ t = .string (strOf ((Pk.fixL N).take j)) ∧ Below B w wr) (fun _ k _ => (intOf k + 8).toNat)
  case atStart => exact ⟨0, by omega, rfl, rfl, Below.refl _ _⟩
  case round =>
    obtain ⟨j, hj, rfl, rfl, hbel⟩ := hrel
    have hBw : B ≤ wr.heap.size := by have := hbel.size; have := unhide HB; omega
    have hz : (strOf ((Pk.fixL N).take j)).size ≤ 8 := by rw [strOf_size, List.length_take]; omega
    have hcv := one_conv wr
    have HBel := hide hbel
    clear hbel
    have HS := hide (fixed_step N j)
    have HE : Hid (j = 8 → strOf ((Pk.fixL N).take j) = strOf (Pk.fixL N)) := fun h => by subst h; rfl
    generalize strOf ((Pk.fixL N).take j) = S at *
    have d : j = 0 ∨ j = 1 ∨ j = 2 ∨ j = 3 ∨ j = 4 ∨ j = 5 ∨ j = 6 ∨ j = 7 ∨ j = 8 := by omega
    rcases d with rfl | rfl | rfl | rfl | rfl | rfl | rfl | rfl | rfl
    case inr.inr.inr.inr.inr.inr.inr.inr =>
      obtain rfl := unhide HE rfl
      go_wp2
      go_ret
      exact ⟨rfl, unhide HBel⟩
    all_goals
      go_wp2
      go_roundw
      case rel =>
        refine ⟨_, ?_, ?_, congrArg Value.string (unhide HS _ (by decide) ?_), (unhide HBel).alloc hBw _⟩
        · decide
        · rfl
        · simp [Pk.fixL]
          try omega
      case measure => simp [intOf]
end Go.Proofs.YtdkgifjmahkiaaaDoor.L4
