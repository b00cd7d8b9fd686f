
/- What the document's own scan answers. -/
import Derived.Test.YtepkifledonldaaAhead
import Derived.OwnWalk
namespace Go.Proofs.Ytepkifledonldaa
open Go.ChangeShapes Go.WideShapes Go.ChangeAt Go.RowKit

theorem and127 (b : Nat) (hb : b < 256) : bits .and .u8 (b : Int) 127 = ((b % 128 : Nat) : Int) := by
  have h := u8_and_nat b 127 hb (by decide)
  have e : b &&& 127 = b % 128 := Nat.and_two_pow_sub_one_eq_mod b 7
  rw [e] at h
  exact h
theorem and_lo (b : Nat) (hb : b < 128) : bits .and .u8 (b : Int) 127 = (b : Int) := by
  rw [and127 b (by omega)]
  omega
theorem and_hi (b : Nat) (hb : ¬ b < 128) (hb' : b < 256) : bits .and .u8 (b : Int) 127 = (b : Int) - 128 := by
  rw [and127 b hb']
  omega
theorem or_none (n i b : Nat) (hb : b = 0) (hn : n < 2 ^ (7 * i)) (hi : i ≤ 8) : bits .or .u64 (n : Int) (IntKind.u64.wrap 0) = ((n + b * 2 ^ (7 * i) : Nat) : Int) := by
  have h := or_lo n i 0 hn (by decide) hi
  subst hb
  have e : ((0 : Nat) : Int) * 2 ^ (7 * i) = 0 := by simp
  rw [e] at h
  exact h
theorem cast_one (i : Nat) : (i : Int) + 1 = ((i + 1 : Nat) : Int) := by omega
theorem ret3_int {k j l : IntKind} {a a' b b' c c' : Int} (h : a = a') (h' : b = b') (h'' : c = c') : Ending.returned (.tuple #[.int k a, .int j b, .int l c]) = .returned (.tuple #[.int k a', .int j b', .int l c']) := by rw [h, h', h'']

set_option maxRecDepth 10000 in
set_option maxHeartbeats 2000000 in
theorem refScan_any (s : ByteArray) (w : World) (hs : s.size ≤ maxLen) :
    Calls Try.prog 58 #[.string s] w fun e w' => e = .returned (.tuple #[.int .u64 ((Pk.scan (bn s)).1 : Int), .int .i64 ((Pk.scan (bn s)).2.1 : Int), .int .i64 ((Pk.scan (bn s)).2.2 : Int)]) ∧ w' = w := by
  unfold maxLen at hs
  go_enter Try.func58, Try.ntmps58
  go_wp2
  go_loop [5, 6] (fun t j => ∃ i n : Nat, i ≤ s.size ∧ j = .int .i64 i ∧ t = .int .u64 n ∧ At s i n) (fun _ j => 10 - (intOf j).toNat)
  case atStart => exact ⟨0, 0, by omega, rfl, rfl, by omega, by decide, rfl⟩
  case round =>
    obtain ⟨i, n, hi, rfl, rfl, hat⟩ := hrel
    have hi9 : i ≤ 9 := hat.1
    have HA := hide hat
    clear hat
    by_cases hlt : i < s.size
    · have hb : (s[i].toNat : Int) < 256 := by have := s[i].toNat_lt; omega
      by_cases hform : (i = 9 ∧ 1 < s[i].toNat) ∨ (0 < i ∧ s[i].toNat = 0)
      · have HF := hide ((unhide HA).bad hlt hform)
        by_cases h9 : i = 9
        · subst h9
          by_cases h1 : 1 < s[9].toNat
          · clear hform HA
            go_wp2
            go_ret3
            rw [unhide HF]
            exact ⟨rfl, rfl⟩
          · have h0 : s[9].toNat = 0 := by omega
            clear hform HA h1
            go_wp2
            go_ret3
            rw [unhide HF]
            exact ⟨rfl, rfl⟩
        · have h0 : s[i].toNat = 0 := by omega
          have hi0 : 0 < i := by omega
          have h9' : ((i : Int) == 9) = false := beq_eq_false_iff_ne.2 (by omega)
          clear hform HA h9
          go_wp2
          go_ret3
          rw [unhide HF]
          exact ⟨rfl, rfl⟩
      · by_cases h128 : s[i].toNat < 128
        · have HS := hide ((unhide HA).stop hlt hform h128)
          have hand := and_lo s[i].toNat h128
          by_cases h9 : i = 9
          · subst h9
            have h1 : ¬ 1 < s[9].toNat := by omega
            have h0 : 0 < s[9].toNat := by omega
            have HE := hide (or9 n s[9].toNat (unhide HA).2.1 (by omega))
            clear hform HA
            go_wp2
            go_ret3
            rw [unhide HS]
            exact ⟨ret3_int (unhide HE) rfl rfl, rfl⟩
          · have HE := hide (or_lo n i s[i].toNat (unhide HA).2.1 h128 (by omega))
            have h9' : ((i : Int) == 9) = false := beq_eq_false_iff_ne.2 (by omega)
            by_cases hi0 : 0 < i
            · have h0 : 0 < s[i].toNat := by omega
              clear hform HA h9
              go_wp2
              go_ret3
              rw [unhide HS]
              exact ⟨ret3_int (unhide HE) (cast_one i) rfl, rfl⟩
            · by_cases h0 : s[i].toNat = 0
              · have HN := hide (or_none n i s[i].toNat h0 (unhide HA).2.1 (by omega))
                have ha0 : bits .and .u8 (0 : Int) 127 = 0 := and_lo 0 (by decide)
                have HS' : Hid (Pk.scan (bn s) = (n + s[i].toNat * 2 ^ (7 * i), i + 1, 0)) := unhide HS
                clear hform HA h9 HE HS
                generalize n + s[i].toNat * 2 ^ (7 * i) = r at *
                go_wp2
                go_ret3
                rw [unhide HS']
                exact ⟨ret3_int (unhide HN) (cast_one i) rfl, rfl⟩
              · have h0' : 0 < s[i].toNat := by omega
                clear hform HA h9 h0
                go_wp2
                go_ret3
                rw [unhide HS]
                exact ⟨ret3_int (unhide HE) (cast_one i) rfl, rfl⟩
        · have HS := hide ((unhide HA).step hlt hform h128)
          have h9 : ¬ i = 9 := by omega
          have HE := hide (or_hi n i s[i].toNat (unhide HA).2.1 h128 (by omega) (by omega))
          have hand := and_hi s[i].toNat h128 (by omega)
          have h9' : ((i : Int) == 9) = false := beq_eq_false_iff_ne.2 (by omega)
          have hi8 : i < 9 := by omega
          clear hform HA h9
          go_wp2
          go_round
          case rel => exact ⟨i + 1, _, by omega, by go_num, int_eq (unhide HE), unhide HS⟩
          case measure => simp [intOf]; omega
    · have HF := hide ((unhide HA).out (by omega))
      clear HA
      go_wp2
      go_ret3
      rw [unhide HF]
      exact ⟨rfl, rfl⟩
end Go.Proofs.Ytepkifledonldaa
