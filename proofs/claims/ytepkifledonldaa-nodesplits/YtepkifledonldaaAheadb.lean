
/- The short number at the beginning of a text, as a text's length; the copy of a text; the text at the beginning. -/
import Derived.Test.YtepkifledonldaaAhead
namespace Go.Proofs.Ytepkifledonldaa
open Go.ChangeShapes Go.WideShapes Go.ChangeAt Go.RowKit

set_option maxRecDepth 10000 in
set_option maxHeartbeats 2000000 in
theorem shortAhead42 (c r e : Nat) (L s : ByteArray) (w : World) (hs : s.size ≤ maxLen) (hc : w.cell? ⟨c, 0, none⟩ = some (.pointer (some ⟨r, 0, none⟩))) (hr : Rd w r L e) :
    Calls Try.prog 75 #[.string s, .func (.func 81) #[] #[.pointer (some ⟨c, 0, none⟩)]] w fun e w' => ∃ n k er : Nat, Pk.scan (bn s) = (n, k, er) ∧ e = .returned (.tuple #[.int .u64 (n : Int), .int .i64 (k : Int)]) ∧ w' = tellW w r er := by
  unfold maxLen at hs
  have HC := hide hc
  have HR := hide hr
  clear hc hr
  go_enter Try.func75, Try.ntmps75
  go_wp2
  go_step3
  go_wp2
  go_step3
  go_wp2
  go_loop [6, 7, 12] (fun t u j => ∃ i n : Nat, i ≤ s.size ∧ j = .int .i64 i ∧ u = .int .i64 20 ∧ t = .int .u64 n ∧ At s i n) (fun _ _ j => s.size - (intOf j).toNat)
  case atStart => exact ⟨0, 0, by omega, rfl, rfl, rfl, by omega, by decide, rfl⟩
  case round =>
    obtain ⟨i, n, hi, rfl, rfl, rfl, hat⟩ := hrel
    have hi9 : i ≤ 9 := hat.1
    have HA := hide hat
    clear hat
    by_cases hlt : i < s.size
    · have hb : (s[i].toNat : Int) < 256 := by have := s[i].toNat_lt; omega
      by_cases hform : (i = 9 ∧ 1 < s[i].toNat) ∨ (0 < i ∧ s[i].toNat = 0)
      · have HF := hide ((unhide HA).bad hlt hform)
        by_cases h9 : i = 9
        · subst h9
          by_cases h1 : 1 < s[9].toNat
          · clear hform HA
            go_wp2_with (go_at_call 81; refine (tell42 _ _ _ _ _ _ (unhide HC) (unhide HR)).mono ?_; rintro e w' ⟨rfl, rfl⟩)
            try rw [Exit.noGoto_ret]
            go_ret2
            exact ⟨0, 0, 21, unhide HF, rfl, rfl⟩
          · have h0 : s[9].toNat = 0 := by omega
            clear hform HA h1
            go_wp2_with (go_at_call 81; refine (tell42 _ _ _ _ _ _ (unhide HC) (unhide HR)).mono ?_; rintro e w' ⟨rfl, rfl⟩)
            try rw [Exit.noGoto_ret]
            go_ret2
            exact ⟨0, 0, 21, unhide HF, rfl, rfl⟩
        · have h0 : s[i].toNat = 0 := by omega
          have hi0 : 0 < i := by omega
          have h9' : ((i : Int) == 9) = false := beq_eq_false_iff_ne.2 (by omega)
          clear hform HA h9
          go_wp2_with (go_at_call 81; refine (tell42 _ _ _ _ _ _ (unhide HC) (unhide HR)).mono ?_; rintro e w' ⟨rfl, rfl⟩)
          try rw [Exit.noGoto_ret]
          go_ret2
          exact ⟨0, 0, 21, unhide HF, rfl, rfl⟩
      · have HF := hide hform
        by_cases h128 : s[i].toNat < 128
        · have HS := hide ((unhide HA).stop hlt hform h128)
          by_cases h9 : i = 9
          · subst h9
            have h1 : ¬ 1 < s[9].toNat := by omega
            have h0 : 0 < s[9].toNat := by omega
            have HE := hide (or9 n s[9].toNat (unhide HA).2.1 (by omega))
            clear hform HA
            go_wp2
            try rw [Exit.noGoto_ret]
            go_ret2
            exact ⟨_, _, 0, unhide HS, ret2_int (unhide HE) rfl, rfl⟩
          · have HE := hide (or_lo n i s[i].toNat (unhide HA).2.1 h128 (by omega))
            have h9' : ((i : Int) == 9) = false := beq_eq_false_iff_ne.2 (by omega)
            by_cases hi0 : 0 < i
            · have h0 : 0 < s[i].toNat := by omega
              clear hform HA h9
              go_wp2
              try rw [Exit.noGoto_ret]
              go_ret2
              exact ⟨_, _, 0, unhide HS, ret2_int (unhide HE) (by omega), rfl⟩
            · clear hform HA h9
              go_wp2
              try rw [Exit.noGoto_ret]
              go_ret2
              exact ⟨_, _, 0, unhide HS, ret2_int (unhide HE) (by omega), rfl⟩
        · have HS := hide ((unhide HA).step hlt hform h128)
          have h9 : ¬ i = 9 := by omega
          have HE := hide (or_hi n i s[i].toNat (unhide HA).2.1 h128 (by omega) (by omega))
          have h9' : ((i : Int) == 9) = false := beq_eq_false_iff_ne.2 (by omega)
          have h0 : 0 < s[i].toNat := by omega
          clear hform HA h9
          go_wp2
          all_goals go_round
          all_goals first | exact ⟨i + 1, _, by omega, by go_num, rfl, int_eq (unhide HE), unhide HS⟩ | (simp [intOf]; omega)
    · have HF := hide ((unhide HA).out (by omega))
      clear HA
      go_wp2_with (go_at_call 81; refine (tell42 _ _ _ _ _ _ (unhide HC) (unhide HR)).mono ?_; rintro e w' ⟨rfl, rfl⟩)
      try rw [Exit.noGoto_ret]
      go_ret2
      exact ⟨0, 0, 20, unhide HF, rfl, rfl⟩
end Go.Proofs.Ytepkifledonldaa
