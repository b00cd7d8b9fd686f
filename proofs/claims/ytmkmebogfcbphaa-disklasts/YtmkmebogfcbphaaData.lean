/- A sector's bytes: the law's data, the document's zeros; and what a torn write leaves. -/
import Derived.Test.YtmkmebogfcbphaaNew
namespace Go.Proofs.Ytmkmebogfcbphaa
open Go.ChangeShapes Go.WideShapes Go.ChangeAt Go.RowKit

/-- the first k of a sector's bytes -/
def dataL (a b k : Nat) : List Nat := (List.range k).map fun i => if i < 512 then a else b
theorem dataL_length (a b k : Nat) : (dataL a b k).length = k := by simp [dataL]
theorem dataL_succ (a b k : Nat) : dataL a b (k + 1) = dataL a b k ++ [if k < 512 then a else b] := by
  simp [dataL, List.range_succ]
/-- a sector of these two bytes -/
def dataS (a b : Nat) : ByteArray := strOf (dataL a b 1024)
theorem dataS_size (a b : Nat) : (dataS a b).size = 1024 := by unfold dataS; rw [strOf_size, dataL_length]

set_option maxHeartbeats 1000000 in
set_option maxRecDepth 20000 in
theorem data_any (a b : Nat) (w : World) : Calls Try.prog 17 #[.int .u8 (a : Int), .int .u8 (b : Int)] w fun e w' => e = .returned (.string (dataS a b)) ∧ Below w.heap.size w w' := by
  go_enter Try.func17, Try.ntmps17
  go_wp2_with fail
  go_loopw [5, 6] (fun o j wr => ∃ k : Nat, k ≤ 1024 ∧ j = .int .i64 (k : Int) ∧ Own w.heap.size wr o (dataL a b k) ∧ Below w.heap.size w wr) (fun _ j _ => 1024 - (intOf j).toNat)
  case atStart => exact ⟨0, Nat.zero_le _, rfl, World.ownsRow_nil _ _ _ _, Below.refl _ _⟩
  case round =>
    obtain ⟨k, hk, rfl, hown, hbel⟩ := hrel
    have hsz := hbel.size
    have hlen := dataL_length a b k
    by_cases hlt : k < 1024
    · have hlt' : (k : Int) < 1024 := by omega
      by_cases hh : k < 512
      · have hh' : (k : Int) < 512 := by omega
        go_wp2_with (first
          | (at_builtin; refine app_one (b := a) rfl _ _ rfl rfl rfl hsz hbel hown (by omega) ?_; intro a' cap' w1 hown1 hbel1)
          | go_in)
        go_roundw
        case rel =>
          refine ⟨k + 1, by omega, by go_num, ?_, hbel1⟩
          rw [dataL_succ, if_pos hh]
          rw [hlen] at hown1
          exact hown1
        case measure => simp [intOf]; omega
      · have hh' : ¬ (k : Int) < 512 := by omega
        go_wp2_with (first
          | (at_builtin; refine app_one (b := b) rfl _ _ rfl rfl rfl hsz hbel hown (by omega) ?_; intro a' cap' w1 hown1 hbel1)
          | go_in)
        go_roundw
        case rel =>
          refine ⟨k + 1, by omega, by go_num, ?_, hbel1⟩
          rw [dataL_succ, if_neg hh]
          rw [hlen] at hown1
          exact hown1
        case measure => simp [intOf]; omega
    · have hlt' : ¬ (k : Int) < 1024 := by omega
      have hk0 : k = 1024 := by omega
      subst hk0
      have hcv := conv_own hown
      go_wp2
      go_ret
      exact ⟨rfl, hbel⟩

set_option maxHeartbeats 1000000 in
theorem torn_lost (old data : ByteArray) (f : Int) (w : World) (h : f < 1) : Calls Try.prog 39 #[.string old, .string data, .int .i64 f] w fun e w' => e = .returned (.string old) ∧ w' = w := by
  go_enter Try.func39, Try.ntmps39
  go_wp2
  go_ret
  exact ⟨rfl, rfl⟩
set_option maxHeartbeats 1000000 in
theorem torn_done (old data : ByteArray) (w : World) : Calls Try.prog 39 #[.string old, .string data, .int .i64 1] w fun e w' => e = .returned (.string data) ∧ w' = w := by
  go_enter Try.func39, Try.ntmps39
  go_wp2
  go_ret
  exact ⟨rfl, rfl⟩
set_option maxHeartbeats 1000000 in
set_option maxRecDepth 20000 in
theorem torn_part (old data : ByteArray) (f : Int) (k : Nat) (w : World) (h : 1 < f) (h1 : old.size = 1024) (h2 : data.size = 1024) (hk : Int.tmod f 1024 = (k : Int)) (hk2 : k < 1024) :
    Calls Try.prog 39 #[.string old, .string data, .int .i64 f] w fun e w' => e = .returned (.string (tearK old data k)) ∧ Below w.heap.size w w' := by
  have h3 : ¬ f < 1 := by omega
  have h4 : f ≠ 1 := by omega
  have h1' : (old.size : Int) = 1024 := by omega
  have h2' : (data.size : Int) = 1024 := by omega
  have hk3 : (k : Int) ≤ (data.size : Int) := by omega
  have hk4 : (k : Int) ≤ (old.size : Int) := by omega
  have e : tearK old data k = data.extract 0 k ++ old.extract k 1024 := by unfold tearK; rw [h1]
  rw [e]
  clear e
  go_enter Try.func39, Try.ntmps39
  go_wp2
  go_region
  go_wp2
  go_ret
  exact ⟨rfl, (Below.refl _ _).drew⟩
theorem torn_any (old data : ByteArray) (f : Int) (w : World) (h1 : old.size = 1024) (h2 : data.size = 1024) :
    Calls Try.prog 39 #[.string old, .string data, .int .i64 f] w fun e w' => e = .returned (.string (tear old data f)) ∧ Below w.heap.size w w' := by
  unfold tear
  by_cases h : f < 1
  · rw [if_pos h]
    refine (torn_lost old data f w h).mono ?_
    rintro e w' ⟨rfl, rfl⟩
    exact ⟨rfl, Below.refl _ _⟩
  · rw [if_neg h]
    by_cases h3 : f = 1
    · subst h3
      refine (torn_done old data w).mono ?_
      rintro e w' ⟨rfl, rfl⟩
      exact ⟨rfl, Below.refl _ _⟩
    · rw [if_neg h3]
      refine torn_part old data f (f.toNat % 1024) w (by omega) h1 h2 ?_ (Nat.mod_lt _ (by omega))
      rw [Int.tmod_eq_emod_of_nonneg (by omega)]
      omega
end Go.Proofs.Ytmkmebogfcbphaa
