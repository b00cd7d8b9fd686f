/- The fixed number at the beginning of a text. -/
import Derived.Test.YtnjdkocpfcodfaaAhead
namespace Go.Proofs.Ytnjdkocpfcodfaa
open Go.ChangeShapes Go.WideShapes Go.ChangeAt Go.RowKit

set_option maxHeartbeats 400000 in
theorem fixedAhead_none (c r e : Nat) (L s : ByteArray) (w : World) (hs : s.size < 8) (hc : w.cell? ⟨c, 0, none⟩ = some (.pointer (some ⟨r, 0, none⟩))) (hr : Rd w r L e) :
    Calls Try.prog 34 #[.string s, .func (.func 41) #[] #[.pointer (some ⟨c, 0, none⟩)]] w fun e w' => e = .returned (.tuple #[.int .u64 0, .int .i64 0]) ∧ w' = w.setCell ⟨r, 1, none⟩ (.int .i64 20) := by
  have HC := hide hc
  have HR := hide hr
  clear hc hr
  go_enter Try.func34, Try.ntmps34
  go_wp2_with (go_at_call 41; refine (tell41 _ _ _ _ _ _ (unhide HC) (unhide HR)).mono ?_; rintro e w' ⟨rfl, rfl⟩)
  go_ret2
  exact ⟨rfl, rfl⟩

theorem take_snoc_bn (s : ByteArray) (k : Nat) (h : k < s.size) : (bn s).take (k + 1) = (bn s).take k ++ [s[k].toNat] := by
  rw [List.take_succ_eq_append_getElem (by rw [bn_length]; exact h)]
  congr 2
  have := bn_at s k h
  rw [List.getElem?_eq_getElem (by rw [bn_length]; exact h)] at this
  exact Option.some.inj this
theorem or_byte (n b : Nat) (hn : n < 72057594037927936) (hb : b < 256) : bits .or .u64 ((n : Int) * 256) (b : Int) = ((n * 256 + b : Nat) : Int) := by
  have h := u64_or_nat (n * 256) b (by omega) (by omega)
  have e := Nat.two_pow_add_eq_or_of_lt (i := 8) (b := b) (by omega) n
  have e2 : n * 256 ||| b = n * 256 + b := by
    rw [show (2 : Nat) ^ 8 = 256 by rfl] at e
    rw [Nat.mul_comm n 256]
    exact e.symm
  rw [e2] at h
  rw [← h]
  simp
theorem fix_bound (s : ByteArray) (i : Nat) (hi : i ≤ 7) : Pk.fixN ((bn s).take i) < 72057594037927936 := by
  have h1 := Pk.fixN_lt ((bn s).take i) (fun b hb => bn_lt s b (List.mem_of_mem_take hb))
  have h2 : 256 ^ ((bn s).take i).length ≤ 256 ^ 7 := Nat.pow_le_pow_right (by decide) (by rw [List.length_take]; omega)
  have h3 : (256 : Nat) ^ 7 = 72057594037927936 := by decide
  omega

set_option maxRecDepth 10000 in
set_option maxHeartbeats 1000000 in
theorem fixedAhead_some (v : Value) (s : ByteArray) (w : World) (hs : 8 ≤ s.size) :
    Calls Try.prog 34 #[.string s, v] w fun e w' => e = .returned (.tuple #[.int .u64 (Pk.fixN ((bn s).take 8) : Nat), .int .i64 8]) ∧ w' = w := by
  go_enter Try.func34, Try.ntmps34
  go_wp2
  go_loop [6, 13] (fun t j => ∃ i : Nat, i ≤ 8 ∧ j = .int .i64 i ∧ t = .int .u64 (Pk.fixN ((bn s).take i) : Nat)) (fun _ j => 8 - (intOf j).toNat)
  case atStart => exact ⟨0, by omega, rfl, rfl⟩
  case round =>
    obtain ⟨i, hi, rfl, rfl⟩ := hrel
    by_cases hlt : i < 8
    · have his : i < s.size := by omega
      have hb : (s[i].toNat : Int) < 256 := by have := s[i].toNat_lt; omega
      have hn := fix_bound s i (by omega)
      have HS : Hid (Pk.fixN ((bn s).take (i + 1)) = Pk.fixN ((bn s).take i) * 256 + s[i].toNat) := by
        show _ = _
        rw [take_snoc_bn s i his, Pk.fixN_snoc]
      generalize Pk.fixN ((bn s).take i) = n at *
      have HE := hide (or_byte n s[i].toNat hn (by omega))
      go_wp2
      go_round
      case rel => exact ⟨i + 1, by omega, by go_num, by rw [unhide HS]; exact int_eq (unhide HE)⟩
      case measure => simp [intOf]; omega
    · obtain rfl : i = 8 := by omega
      go_wp2
      go_ret2
      exact ⟨rfl, rfl⟩
end Go.Proofs.Ytnjdkocpfcodfaa
