
/- What stands ahead: the closure that tells an error, and the numbers at the beginning of a text. -/
import Derived.Test.YtepkifledonldaaKit
import Derived.WalkMore
namespace Go.Proofs.Ytepkifledonldaa
open Go.ChangeShapes Go.WideShapes Go.ChangeAt Go.RowKit

/-- a reader in memory -/
def Rd (w : World) (r : Nat) (L : ByteArray) (e : Nat) : Prop := w.heap[r]? = some (.cells #[.string L, .int .i64 (e : Int)] 89 (0, 0))
theorem Rd.cell0 {w : World} {r e : Nat} {L : ByteArray} (h : Rd w r L e) : w.cell? ⟨r, 0, none⟩ = some (.string L) := by
  unfold Rd at h
  simp [World.cell?, h]
theorem Rd.cell1 {w : World} {r e : Nat} {L : ByteArray} (h : Rd w r L e) : w.cell? ⟨r, 1, none⟩ = some (.int .i64 (e : Int)) := by
  unfold Rd at h
  simp [World.cell?, h]
theorem Rd.free {w : World} {r e : Nat} {L : ByteArray} (h : Rd w r L e) (i : Nat) : w.frozen? ⟨r, i, none⟩ = false := by
  unfold Rd at h
  simp [World.frozen?, h]
theorem Rd.lt {w : World} {r e : Nat} {L : ByteArray} (h : Rd w r L e) : r < w.heap.size := (Array.getElem?_eq_some_iff.1 h).1
theorem Rd.setErr {w : World} {r e : Nat} {L : ByteArray} (h : Rd w r L e) (e' : Nat) : Rd (w.setCell ⟨r, 1, none⟩ (.int .i64 (e' : Int))) r L e' := by
  unfold Rd at *
  simp [World.setCell, Array.getElem?_modify, h]
theorem Rd.setLeft {w : World} {r e : Nat} {L : ByteArray} (h : Rd w r L e) (L' : ByteArray) : Rd (w.setCell ⟨r, 0, none⟩ (.string L')) r L' e := by
  unfold Rd at *
  simp [World.setCell, Array.getElem?_modify, h]

theorem full_of {s : ByteArray} (h : 0 < s.size) : s.toList.isEmpty = false := by
  rw [ByteArray.toList_eq, List.isEmpty_eq_false_iff]
  intro e
  have : s.data.toList.length = 0 := by rw [e]; rfl
  rw [Array.length_toList] at this
  exact absurd this (Nat.ne_of_gt h)

/-- the closure tells an error: it is the reader's -/
def tellW (w : World) (r er : Nat) : World := if er = 0 then w else w.setCell ⟨r, 1, none⟩ (.int .i64 (er : Int))

set_option maxHeartbeats 400000 in
theorem tell40 (x : Int) (c r e : Nat) (L : ByteArray) (w : World) (hc : w.cell? ⟨c, 0, none⟩ = some (.pointer (some ⟨r, 0, none⟩))) (hr : Rd w r L e) :
    Calls Try.prog 73 #[.int .i64 x, .pointer (some ⟨c, 0, none⟩)] w fun e w' => e = .returned (.tuple #[]) ∧ w' = w.setCell ⟨r, 1, none⟩ (.int .i64 x) := by
  have h1 := hr.cell1
  have hf := hr.free 1
  clear hr
  go_enter Try.func73, Try.ntmps73
  go_wp2
  go_end0
  exact ⟨rfl, rfl⟩
set_option maxHeartbeats 400000 in
theorem tell41 (x : Int) (c r e : Nat) (L : ByteArray) (w : World) (hc : w.cell? ⟨c, 0, none⟩ = some (.pointer (some ⟨r, 0, none⟩))) (hr : Rd w r L e) :
    Calls Try.prog 80 #[.int .i64 x, .pointer (some ⟨c, 0, none⟩)] w fun e w' => e = .returned (.tuple #[]) ∧ w' = w.setCell ⟨r, 1, none⟩ (.int .i64 x) := by
  have h1 := hr.cell1
  have hf := hr.free 1
  clear hr
  go_enter Try.func80, Try.ntmps80
  go_wp2
  go_end0
  exact ⟨rfl, rfl⟩
set_option maxHeartbeats 400000 in
theorem tell42 (x : Int) (c r e : Nat) (L : ByteArray) (w : World) (hc : w.cell? ⟨c, 0, none⟩ = some (.pointer (some ⟨r, 0, none⟩))) (hr : Rd w r L e) :
    Calls Try.prog 81 #[.int .i64 x, .pointer (some ⟨c, 0, none⟩)] w fun e w' => e = .returned (.tuple #[]) ∧ w' = w.setCell ⟨r, 1, none⟩ (.int .i64 x) := by
  have h1 := hr.cell1
  have hf := hr.free 1
  clear hr
  go_enter Try.func81, Try.ntmps81
  go_wp2
  go_end0
  exact ⟨rfl, rfl⟩

set_option maxHeartbeats 400000 in
theorem byteAhead_none (c r e : Nat) (L s : ByteArray) (w : World) (hs : s.size = 0) (hc : w.cell? ⟨c, 0, none⟩ = some (.pointer (some ⟨r, 0, none⟩))) (hr : Rd w r L e) :
    Calls Try.prog 68 #[.string s, .func (.func 73) #[] #[.pointer (some ⟨c, 0, none⟩)]] w fun e w' => e = .returned (.tuple #[.int .u8 0, .int .i64 0]) ∧ w' = w.setCell ⟨r, 1, none⟩ (.int .i64 20) := by
  obtain rfl : s = ⟨#[]⟩ := ByteArray.ext (Array.eq_empty_of_size_eq_zero hs)
  have HC := hide hc
  have HR := hide hr
  clear hc hr hs
  go_enter Try.func68, Try.ntmps68
  go_wp2_with (go_at_call 73; refine (tell40 _ _ _ _ _ _ (unhide HC) (unhide HR)).mono ?_; rintro e w' ⟨rfl, rfl⟩)
  go_ret2
  exact ⟨rfl, rfl⟩
set_option maxHeartbeats 400000 in
theorem byteAhead_some (v : Value) (s : ByteArray) (w : World) (hs : 0 < s.size) :
    Calls Try.prog 68 #[.string s, v] w fun e w' => e = .returned (.tuple #[.int .u8 ((s[0]).toNat : Int), .int .i64 1]) ∧ w' = w := by
  have he := full_of hs
  go_enter Try.func68, Try.ntmps68
  go_wp2
  go_ret2
  exact ⟨rfl, rfl⟩

/-- where the loop over a short number stands -/
def At (s : ByteArray) (i n : Nat) : Prop := i ≤ 9 ∧ n < 2 ^ (7 * i) ∧ Pk.scan (bn s) = Pk.sc (10 - i) ((bn s).drop i) i n

theorem drop_at (s : ByteArray) (i : Nat) (h : i < s.size) : (bn s).drop i = s[i].toNat :: (bn s).drop (i + 1) := by
  rw [List.drop_eq_getElem_cons (by rw [bn_length]; exact h)]
  congr 1
  have := bn_at s i h
  rw [List.getElem?_eq_getElem (by rw [bn_length]; exact h)] at this
  exact Option.some.inj this
theorem At.bad {s : ByteArray} {i n : Nat} (h : At s i n) (hi : i < s.size) (hf : (i = 9 ∧ 1 < s[i].toNat) ∨ (0 < i ∧ s[i].toNat = 0)) : Pk.scan (bn s) = (0, 0, 21) := by
  obtain ⟨h9, _, he⟩ := h
  rw [he, drop_at s i hi, show 10 - i = (9 - i) + 1 by omega, Pk.sc, if_pos hf]
theorem At.stop {s : ByteArray} {i n : Nat} (h : At s i n) (hi : i < s.size) (hf : ¬ ((i = 9 ∧ 1 < s[i].toNat) ∨ (0 < i ∧ s[i].toNat = 0))) (hb : s[i].toNat < 128) : Pk.scan (bn s) = (n + s[i].toNat * 2 ^ (7 * i), i + 1, 0) := by
  obtain ⟨h9, _, he⟩ := h
  rw [he, drop_at s i hi, show 10 - i = (9 - i) + 1 by omega, Pk.sc, if_neg hf, if_pos hb]
theorem At.step {s : ByteArray} {i n : Nat} (h : At s i n) (hi : i < s.size) (hf : ¬ ((i = 9 ∧ 1 < s[i].toNat) ∨ (0 < i ∧ s[i].toNat = 0))) (hb : ¬ s[i].toNat < 128) : At s (i + 1) (n + (s[i].toNat - 128) * 2 ^ (7 * i)) := by
  obtain ⟨h9, hn, he⟩ := h
  have hlt := s[i].toNat_lt
  refine ⟨by omega, ?_, ?_⟩
  · rw [Pk.pow_step]
    generalize 2 ^ (7 * i) = p at *
    have : (s[i].toNat - 128) * p ≤ 127 * p := Nat.mul_le_mul_right _ (by omega)
    omega
  · rw [he, drop_at s i hi, show 10 - i = (9 - i) + 1 by omega, Pk.sc, if_neg hf, if_neg hb, show 10 - (i + 1) = 9 - i by omega]
theorem At.out {s : ByteArray} {i n : Nat} (h : At s i n) (hi : s.size ≤ i) : Pk.scan (bn s) = (0, 0, 20) := by
  obtain ⟨h9, _, he⟩ := h
  rw [he, List.drop_of_length_le (by rw [bn_length]; exact hi), show 10 - i = (9 - i) + 1 by omega, Pk.sc]

theorem ret2_int {k j : IntKind} {a a' b b' : Int} (h : a = a') (h' : b = b') : Ending.returned (.tuple #[.int k a, .int j b]) = .returned (.tuple #[.int k a', .int j b']) := by rw [h, h']
theorem int_eq {k : IntKind} {a b : Int} (h : a = b) : Value.int k a = .int k b := by rw [h]
theorem pow_le9 (i : Nat) (hi : i ≤ 9) : 2 ^ (7 * i) ≤ 9223372036854775808 := by
  have : 2 ^ (7 * i) ≤ 2 ^ 63 := Nat.pow_le_pow_right (by decide) (by omega)
  simpa using this
theorem or_at (n i b : Nat) (hi : i ≤ 9) (hn : n < 2 ^ (7 * i)) (hx : b * 2 ^ (7 * i) < 18446744073709551616) : bits .or .u64 (n : Int) ((b * 2 ^ (7 * i) : Nat) : Int) = ((n + b * 2 ^ (7 * i) : Nat) : Int) := by
  have := pow_le9 i hi
  rw [u64_or_nat n _ (by omega) hx]
  have := Nat.two_pow_add_eq_or_of_lt hn b
  rw [Nat.or_comm, Nat.mul_comm b, ← this, Nat.add_comm]
theorem wrap_at (x : Nat) (h : x < 18446744073709551616) : IntKind.u64.wrap (x : Int) = (x : Int) := by
  rw [IntKind.wrap_u64]
  omega
theorem shl_lt (i b : Nat) (hi : i ≤ 8) (hb : b < 128) : b * 2 ^ (7 * i) < 18446744073709551616 := by
  have h1 : 2 ^ (7 * i) ≤ 2 ^ 56 := Nat.pow_le_pow_right (by decide) (by omega)
  have h2 : b * 2 ^ (7 * i) ≤ 127 * 2 ^ 56 := Nat.mul_le_mul (by omega) h1
  omega
theorem cast_shl (b i : Nat) : (b : Int) * 2 ^ (7 * i) = ((b * 2 ^ (7 * i) : Nat) : Int) := by simp
theorem or_lo (n i b : Nat) (hn : n < 2 ^ (7 * i)) (hb : b < 128) (hi : i ≤ 8) : bits .or .u64 (n : Int) (IntKind.u64.wrap ((b : Int) * 2 ^ (7 * i))) = ((n + b * 2 ^ (7 * i) : Nat) : Int) := by
  have h := shl_lt i b hi hb
  rw [cast_shl, wrap_at _ h]
  exact or_at n i b (by omega) hn h
theorem or9 (n b : Nat) (hn : n < 2 ^ (7 * 9)) (hb : b ≤ 1) : bits .or .u64 (n : Int) ((b : Int) * 9223372036854775808) = ((n + b * 2 ^ (7 * 9) : Nat) : Int) := by
  have h := or_at n 9 b (by omega) hn (by omega)
  rw [← cast_shl] at h
  exact h
theorem or_hi (n i b : Nat) (hn : n < 2 ^ (7 * i)) (hb : ¬ b < 128) (hb' : b < 256) (hi : i ≤ 8) : bits .or .u64 (n : Int) (IntKind.u64.wrap (((b : Int) - 128) * 2 ^ (7 * i))) = ((n + (b - 128) * 2 ^ (7 * i) : Nat) : Int) := by
  have e : (b : Int) - 128 = ((b - 128 : Nat) : Int) := by omega
  rw [e]
  exact or_lo n i (b - 128) hn (by omega) hi

set_option maxRecDepth 10000 in
set_option maxHeartbeats 2000000 in
theorem shortAhead41 (c r e : Nat) (L s : ByteArray) (w : World) (hs : s.size ≤ maxLen) (hc : w.cell? ⟨c, 0, none⟩ = some (.pointer (some ⟨r, 0, none⟩))) (hr : Rd w r L e) :
    Calls Try.prog 75 #[.string s, .func (.func 80) #[] #[.pointer (some ⟨c, 0, none⟩)]] w fun e w' => ∃ n k er : Nat, Pk.scan (bn s) = (n, k, er) ∧ e = .returned (.tuple #[.int .u64 (n : Int), .int .i64 (k : Int)]) ∧ w' = tellW w r er := by
  unfold maxLen at hs
  have HC := hide hc
  have HR := hide hr
  clear hc hr
  go_enter Try.func75, Try.ntmps75
  go_wp2
  go_step3
  go_wp2
  go_step3
  go_wp2
  go_loop [6, 7, 12] (fun t u j => ∃ i n : Nat, i ≤ s.size ∧ j = .int .i64 i ∧ u = .int .i64 20 ∧ t = .int .u64 n ∧ At s i n) (fun _ _ j => s.size - (intOf j).toNat)
  case atStart => exact ⟨0, 0, by omega, rfl, rfl, rfl, by omega, by decide, rfl⟩
  case round =>
    obtain ⟨i, n, hi, rfl, rfl, rfl, hat⟩ := hrel
    have hi9 : i ≤ 9 := hat.1
    have HA := hide hat
    clear hat
    by_cases hlt : i < s.size
    · have hb : (s[i].toNat : Int) < 256 := by have := s[i].toNat_lt; omega
      by_cases hform : (i = 9 ∧ 1 < s[i].toNat) ∨ (0 < i ∧ s[i].toNat = 0)
      · have HF := hide ((unhide HA).bad hlt hform)
        by_cases h9 : i = 9
        · subst h9
          by_cases h1 : 1 < s[9].toNat
          · clear hform HA
            go_wp2_with (go_at_call 80; refine (tell41 _ _ _ _ _ _ (unhide HC) (unhide HR)).mono ?_; rintro e w' ⟨rfl, rfl⟩)
            try rw [Exit.noGoto_ret]
            go_ret2
            exact ⟨0, 0, 21, unhide HF, rfl, rfl⟩
          · have h0 : s[9].toNat = 0 := by omega
            clear hform HA h1
            go_wp2_with (go_at_call 80; refine (tell41 _ _ _ _ _ _ (unhide HC) (unhide HR)).mono ?_; rintro e w' ⟨rfl, rfl⟩)
            try rw [Exit.noGoto_ret]
            go_ret2
            exact ⟨0, 0, 21, unhide HF, rfl, rfl⟩
        · have h0 : s[i].toNat = 0 := by omega
          have hi0 : 0 < i := by omega
          have h9' : ((i : Int) == 9) = false := beq_eq_false_iff_ne.2 (by omega)
          clear hform HA h9
          go_wp2_with (go_at_call 80; refine (tell41 _ _ _ _ _ _ (unhide HC) (unhide HR)).mono ?_; rintro e w' ⟨rfl, rfl⟩)
          try rw [Exit.noGoto_ret]
          go_ret2
          exact ⟨0, 0, 21, unhide HF, rfl, rfl⟩
      · have HF := hide hform
        by_cases h128 : s[i].toNat < 128
        · have HS := hide ((unhide HA).stop hlt hform h128)
          by_cases h9 : i = 9
          · subst h9
            have h1 : ¬ 1 < s[9].toNat := by omega
            have h0 : 0 < s[9].toNat := by omega
            have HE := hide (or9 n s[9].toNat (unhide HA).2.1 (by omega))
            clear hform HA
            go_wp2
            try rw [Exit.noGoto_ret]
            go_ret2
            exact ⟨_, _, 0, unhide HS, ret2_int (unhide HE) rfl, rfl⟩
          · have HE := hide (or_lo n i s[i].toNat (unhide HA).2.1 h128 (by omega))
            have h9' : ((i : Int) == 9) = false := beq_eq_false_iff_ne.2 (by omega)
            by_cases hi0 : 0 < i
            · have h0 : 0 < s[i].toNat := by omega
              clear hform HA h9
              go_wp2
              try rw [Exit.noGoto_ret]
              go_ret2
              exact ⟨_, _, 0, unhide HS, ret2_int (unhide HE) (by omega), rfl⟩
            · clear hform HA h9
              go_wp2
              try rw [Exit.noGoto_ret]
              go_ret2
              exact ⟨_, _, 0, unhide HS, ret2_int (unhide HE) (by omega), rfl⟩
        · have HS := hide ((unhide HA).step hlt hform h128)
          have h9 : ¬ i = 9 := by omega
          have HE := hide (or_hi n i s[i].toNat (unhide HA).2.1 h128 (by omega) (by omega))
          have h9' : ((i : Int) == 9) = false := beq_eq_false_iff_ne.2 (by omega)
          have h0 : 0 < s[i].toNat := by omega
          clear hform HA h9
          go_wp2
          all_goals go_round
          all_goals first | exact ⟨i + 1, _, by omega, by go_num, rfl, int_eq (unhide HE), unhide HS⟩ | (simp [intOf]; omega)
    · have HF := hide ((unhide HA).out (by omega))
      clear HA
      go_wp2_with (go_at_call 80; refine (tell41 _ _ _ _ _ _ (unhide HC) (unhide HR)).mono ?_; rintro e w' ⟨rfl, rfl⟩)
      try rw [Exit.noGoto_ret]
      go_ret2
      exact ⟨0, 0, 20, unhide HF, rfl, rfl⟩
end Go.Proofs.Ytepkifledonldaa
