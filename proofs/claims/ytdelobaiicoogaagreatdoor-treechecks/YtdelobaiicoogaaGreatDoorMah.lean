/- Texts that the proof needs, one behind the other. -/
import Derived.Test.YtdelobaiicoogaaGreatDoorMad
import Derived.WalkMore
import Derived.Shelf.Pu.Clone
import Derived.RegionTactic
import Derived.ChangeAlike
/- What stands ahead: the closure that tells an error, and the numbers at the beginning of a text. -/
namespace Go.Proofs.YtdelobaiicoogaaGreatDoor.L6
open Go.ChangeShapes Go.WideShapes Go.ChangeAt Go.RowKit

/-- a reader in memory -/
def Rd (w : World) (r : Nat) (L : ByteArray) (e : Nat) : Prop := w.heap[r]? = some (.cells #[.string L, .int .i64 (e : Int)] 334 (0, 0))
theorem Rd.cell0 {w : World} {r e : Nat} {L : ByteArray} (h : Rd w r L e) : w.cell? ⟨r, 0, none⟩ = some (.string L) := by
  unfold Rd at h
  simp [World.cell?, h]
theorem Rd.cell1 {w : World} {r e : Nat} {L : ByteArray} (h : Rd w r L e) : w.cell? ⟨r, 1, none⟩ = some (.int .i64 (e : Int)) := by
  unfold Rd at h
  simp [World.cell?, h]
theorem Rd.free {w : World} {r e : Nat} {L : ByteArray} (h : Rd w r L e) (i : Nat) : w.frozen? ⟨r, i, none⟩ = false := by
  unfold Rd at h
  simp [World.frozen?, h]
theorem Rd.lt {w : World} {r e : Nat} {L : ByteArray} (h : Rd w r L e) : r < w.heap.size := (Array.getElem?_eq_some_iff.1 h).1
theorem Rd.setErr {w : World} {r e : Nat} {L : ByteArray} (h : Rd w r L e) (e' : Nat) : Rd (w.setCell ⟨r, 1, none⟩ (.int .i64 (e' : Int))) r L e' := by
  unfold Rd at *
  simp [World.setCell, Array.getElem?_modify, h]
theorem Rd.setLeft {w : World} {r e : Nat} {L : ByteArray} (h : Rd w r L e) (L' : ByteArray) : Rd (w.setCell ⟨r, 0, none⟩ (.string L')) r L' e := by
  unfold Rd at *
  simp [World.setCell, Array.getElem?_modify, h]

theorem full_of {s : ByteArray} (h : 0 < s.size) : s.toList.isEmpty = false := by
  rw [ByteArray.toList_eq, List.isEmpty_eq_false_iff]
  intro e
  have : s.data.toList.length = 0 := by rw [e]; rfl
  rw [Array.length_toList] at this
  exact absurd this (Nat.ne_of_gt h)

/-- the closure tells an error: it is the reader's -/
def tellW (w : World) (r er : Nat) : World := if er = 0 then w else w.setCell ⟨r, 1, none⟩ (.int .i64 (er : Int))

set_option maxHeartbeats 400000 in
theorem tell40 (x : Int) (c r e : Nat) (L : ByteArray) (w : World) (hc : w.cell? ⟨c, 0, none⟩ = some (.pointer (some ⟨r, 0, none⟩))) (hr : Rd w r L e) :
    Calls Tryz.prog 247 #[.int .i64 x, .pointer (some ⟨c, 0, none⟩)] w fun e w' => e = .returned (.tuple #[]) ∧ w' = w.setCell ⟨r, 1, none⟩ (.int .i64 x) := by
  have h1 := hr.cell1
  have hf := hr.free 1
  clear hr
  go_enter Tryz.func247, Tryz.ntmps247
  go_wp2
  go_end0
  exact ⟨rfl, rfl⟩
set_option maxHeartbeats 400000 in
theorem tell41 (x : Int) (c r e : Nat) (L : ByteArray) (w : World) (hc : w.cell? ⟨c, 0, none⟩ = some (.pointer (some ⟨r, 0, none⟩))) (hr : Rd w r L e) :
    Calls Tryz.prog 248 #[.int .i64 x, .pointer (some ⟨c, 0, none⟩)] w fun e w' => e = .returned (.tuple #[]) ∧ w' = w.setCell ⟨r, 1, none⟩ (.int .i64 x) := by
  have h1 := hr.cell1
  have hf := hr.free 1
  clear hr
  go_enter Tryz.func248, Tryz.ntmps248
  go_wp2
  go_end0
  exact ⟨rfl, rfl⟩
set_option maxHeartbeats 400000 in
theorem tell42 (x : Int) (c r e : Nat) (L : ByteArray) (w : World) (hc : w.cell? ⟨c, 0, none⟩ = some (.pointer (some ⟨r, 0, none⟩))) (hr : Rd w r L e) :
    Calls Tryz.prog 270 #[.int .i64 x, .pointer (some ⟨c, 0, none⟩)] w fun e w' => e = .returned (.tuple #[]) ∧ w' = w.setCell ⟨r, 1, none⟩ (.int .i64 x) := by
  have h1 := hr.cell1
  have hf := hr.free 1
  clear hr
  go_enter Tryz.func270, Tryz.ntmps270
  go_wp2
  go_end0
  exact ⟨rfl, rfl⟩

set_option maxHeartbeats 400000 in
theorem byteAhead_none (c r e : Nat) (L s : ByteArray) (w : World) (hs : s.size = 0) (hc : w.cell? ⟨c, 0, none⟩ = some (.pointer (some ⟨r, 0, none⟩))) (hr : Rd w r L e) :
    Calls Tryz.prog 224 #[.string s, .func (.func 247) #[] #[.pointer (some ⟨c, 0, none⟩)]] w fun e w' => e = .returned (.tuple #[.int .u8 0, .int .i64 0]) ∧ w' = w.setCell ⟨r, 1, none⟩ (.int .i64 20) := by
  obtain rfl : s = ⟨#[]⟩ := ByteArray.ext (Array.eq_empty_of_size_eq_zero hs)
  have HC := hide hc
  have HR := hide hr
  clear hc hr hs
  go_enter Tryz.func224, Tryz.ntmps224
  go_wp2_with (go_at_call 247; refine (tell40 _ _ _ _ _ _ (unhide HC) (unhide HR)).mono ?_; rintro e w' ⟨rfl, rfl⟩)
  go_ret2
  exact ⟨rfl, rfl⟩
set_option maxHeartbeats 400000 in
theorem byteAhead_some (v : Value) (s : ByteArray) (w : World) (hs : 0 < s.size) :
    Calls Tryz.prog 224 #[.string s, v] w fun e w' => e = .returned (.tuple #[.int .u8 ((s[0]).toNat : Int), .int .i64 1]) ∧ w' = w := by
  have he := full_of hs
  go_enter Tryz.func224, Tryz.ntmps224
  go_wp2
  go_ret2
  exact ⟨rfl, rfl⟩

/-- where the loop over a short number stands -/
def At (s : ByteArray) (i n : Nat) : Prop := i ≤ 9 ∧ n < 2 ^ (7 * i) ∧ Pk.scan (bn s) = Pk.sc (10 - i) ((bn s).drop i) i n

theorem drop_at (s : ByteArray) (i : Nat) (h : i < s.size) : (bn s).drop i = s[i].toNat :: (bn s).drop (i + 1) := by
  rw [List.drop_eq_getElem_cons (by rw [bn_length]; exact h)]
  congr 1
  have := bn_at s i h
  rw [List.getElem?_eq_getElem (by rw [bn_length]; exact h)] at this
  exact Option.some.inj this
theorem At.bad {s : ByteArray} {i n : Nat} (h : At s i n) (hi : i < s.size) (hf : (i = 9 ∧ 1 < s[i].toNat) ∨ (0 < i ∧ s[i].toNat = 0)) : Pk.scan (bn s) = (0, 0, 21) := by
  obtain ⟨h9, _, he⟩ := h
  rw [he, drop_at s i hi, show 10 - i = (9 - i) + 1 by omega, Pk.sc, if_pos hf]
theorem At.stop {s : ByteArray} {i n : Nat} (h : At s i n) (hi : i < s.size) (hf : ¬ ((i = 9 ∧ 1 < s[i].toNat) ∨ (0 < i ∧ s[i].toNat = 0))) (hb : s[i].toNat < 128) : Pk.scan (bn s) = (n + s[i].toNat * 2 ^ (7 * i), i + 1, 0) := by
  obtain ⟨h9, _, he⟩ := h
  rw [he, drop_at s i hi, show 10 - i = (9 - i) + 1 by omega, Pk.sc, if_neg hf, if_pos hb]
theorem At.step {s : ByteArray} {i n : Nat} (h : At s i n) (hi : i < s.size) (hf : ¬ ((i = 9 ∧ 1 < s[i].toNat) ∨ (0 < i ∧ s[i].toNat = 0))) (hb : ¬ s[i].toNat < 128) : At s (i + 1) (n + (s[i].toNat - 128) * 2 ^ (7 * i)) := by
  obtain ⟨h9, hn, he⟩ := h
  have hlt := s[i].toNat_lt
  refine ⟨by omega, ?_, ?_⟩
  · rw [Pk.pow_step]
    generalize 2 ^ (7 * i) = p at *
    have : (s[i].toNat - 128) * p ≤ 127 * p := Nat.mul_le_mul_right _ (by omega)
    omega
  · rw [he, drop_at s i hi, show 10 - i = (9 - i) + 1 by omega, Pk.sc, if_neg hf, if_neg hb, show 10 - (i + 1) = 9 - i by omega]
theorem At.out {s : ByteArray} {i n : Nat} (h : At s i n) (hi : s.size ≤ i) : Pk.scan (bn s) = (0, 0, 20) := by
  obtain ⟨h9, _, he⟩ := h
  rw [he, List.drop_of_length_le (by rw [bn_length]; exact hi), show 10 - i = (9 - i) + 1 by omega, Pk.sc]

theorem ret2_int {k j : IntKind} {a a' b b' : Int} (h : a = a') (h' : b = b') : Ending.returned (.tuple #[.int k a, .int j b]) = .returned (.tuple #[.int k a', .int j b']) := by rw [h, h']
theorem int_eq {k : IntKind} {a b : Int} (h : a = b) : Value.int k a = .int k b := by rw [h]
theorem pow_le9 (i : Nat) (hi : i ≤ 9) : 2 ^ (7 * i) ≤ 9223372036854775808 := by
  have : 2 ^ (7 * i) ≤ 2 ^ 63 := Nat.pow_le_pow_right (by decide) (by omega)
  simpa using this
theorem or_at (n i b : Nat) (hi : i ≤ 9) (hn : n < 2 ^ (7 * i)) (hx : b * 2 ^ (7 * i) < 18446744073709551616) : bits .or .u64 (n : Int) ((b * 2 ^ (7 * i) : Nat) : Int) = ((n + b * 2 ^ (7 * i) : Nat) : Int) := by
  have := pow_le9 i hi
  rw [u64_or_nat n _ (by omega) hx]
  have := Nat.two_pow_add_eq_or_of_lt hn b
  rw [Nat.or_comm, Nat.mul_comm b, ← this, Nat.add_comm]
theorem wrap_at (x : Nat) (h : x < 18446744073709551616) : IntKind.u64.wrap (x : Int) = (x : Int) := by
  rw [IntKind.wrap_u64]
  omega
theorem shl_lt (i b : Nat) (hi : i ≤ 8) (hb : b < 128) : b * 2 ^ (7 * i) < 18446744073709551616 := by
  have h1 : 2 ^ (7 * i) ≤ 2 ^ 56 := Nat.pow_le_pow_right (by decide) (by omega)
  have h2 : b * 2 ^ (7 * i) ≤ 127 * 2 ^ 56 := Nat.mul_le_mul (by omega) h1
  omega
theorem cast_shl (b i : Nat) : (b : Int) * 2 ^ (7 * i) = ((b * 2 ^ (7 * i) : Nat) : Int) := by simp
theorem or_lo (n i b : Nat) (hn : n < 2 ^ (7 * i)) (hb : b < 128) (hi : i ≤ 8) : bits .or .u64 (n : Int) (IntKind.u64.wrap ((b : Int) * 2 ^ (7 * i))) = ((n + b * 2 ^ (7 * i) : Nat) : Int) := by
  have h := shl_lt i b hi hb
  rw [cast_shl, wrap_at _ h]
  exact or_at n i b (by omega) hn h
theorem or9 (n b : Nat) (hn : n < 2 ^ (7 * 9)) (hb : b ≤ 1) : bits .or .u64 (n : Int) ((b : Int) * 9223372036854775808) = ((n + b * 2 ^ (7 * 9) : Nat) : Int) := by
  have h := or_at n 9 b (by omega) hn (by omega)
  rw [← cast_shl] at h
  exact h
theorem or_hi (n i b : Nat) (hn : n < 2 ^ (7 * i)) (hb : ¬ b < 128) (hb' : b < 256) (hi : i ≤ 8) : bits .or .u64 (n : Int) (IntKind.u64.wrap (((b : Int) - 128) * 2 ^ (7 * i))) = ((n + (b - 128) * 2 ^ (7 * i) : Nat) : Int) := by
  have e : (b : Int) - 128 = ((b - 128 : Nat) : Int) := by omega
  rw [e]
  exact or_lo n i (b - 128) hn (by omega) hi

set_option maxRecDepth 10000 in
set_option maxHeartbeats 2000000 in
theorem shortAhead41 (c r e : Nat) (L s : ByteArray) (w : World) (hs : s.size ≤ maxLen) (hc : w.cell? ⟨c, 0, none⟩ = some (.pointer (some ⟨r, 0, none⟩))) (hr : Rd w r L e) :
    Calls Tryz.prog 253 #[.string s, .func (.func 248) #[] #[.pointer (some ⟨c, 0, none⟩)]] w fun e w' => ∃ n k er : Nat, Pk.scan (bn s) = (n, k, er) ∧ e = .returned (.tuple #[.int .u64 (n : Int), .int .i64 (k : Int)]) ∧ w' = tellW w r er := by
  unfold maxLen at hs
  have HC := hide hc
  have HR := hide hr
  clear hc hr
  go_enter Tryz.func253, Tryz.ntmps253
  go_wp2
  go_step3
  go_wp2
  go_step3
  go_wp2
  go_loop [6, 7, 12] (fun t u j => ∃ i n : Nat, i ≤ s.size ∧ j = .int .i64 i ∧ u = .int .i64 20 ∧ t = .int .u64 n ∧ At s i n) (fun _ _ j => s.size - (intOf j).toNat)
  case atStart => exact ⟨0, 0, by omega, rfl, rfl, rfl, by omega, by decide, rfl⟩
  case round =>
    obtain ⟨i, n, hi, rfl, rfl, rfl, hat⟩ := hrel
    have hi9 : i ≤ 9 := hat.1
    have HA := hide hat
    clear hat
    by_cases hlt : i < s.size
    · have hb : (s[i].toNat : Int) < 256 := by have := s[i].toNat_lt; omega
      by_cases hform : (i = 9 ∧ 1 < s[i].toNat) ∨ (0 < i ∧ s[i].toNat = 0)
      · have HF := hide ((unhide HA).bad hlt hform)
        by_cases h9 : i = 9
        · subst h9
          by_cases h1 : 1 < s[9].toNat
          · clear hform HA
            go_wp2_with (go_at_call 248; refine (tell41 _ _ _ _ _ _ (unhide HC) (unhide HR)).mono ?_; rintro e w' ⟨rfl, rfl⟩)
            try rw [Exit.noGoto_ret]
            go_ret2
            exact ⟨0, 0, 21, unhide HF, rfl, rfl⟩
          · have h0 : s[9].toNat = 0 := by omega
            clear hform HA h1
            go_wp2_with (go_at_call 248; refine (tell41 _ _ _ _ _ _ (unhide HC) (unhide HR)).mono ?_; rintro e w' ⟨rfl, rfl⟩)
            try rw [Exit.noGoto_ret]
            go_ret2
            exact ⟨0, 0, 21, unhide HF, rfl, rfl⟩
        · have h0 : s[i].toNat = 0 := by omega
          have hi0 : 0 < i := by omega
          have h9' : ((i : Int) == 9) = false := beq_eq_false_iff_ne.2 (by omega)
          clear hform HA h9
          go_wp2_with (go_at_call 248; refine (tell41 _ _ _ _ _ _ (unhide HC) (unhide HR)).mono ?_; rintro e w' ⟨rfl, rfl⟩)
          try rw [Exit.noGoto_ret]
          go_ret2
          exact ⟨0, 0, 21, unhide HF, rfl, rfl⟩
      · have HF := hide hform
        by_cases h128 : s[i].toNat < 128
        · have HS := hide ((unhide HA).stop hlt hform h128)
          by_cases h9 : i = 9
          · subst h9
            have h1 : ¬ 1 < s[9].toNat := by omega
            have h0 : 0 < s[9].toNat := by omega
            have HE := hide (or9 n s[9].toNat (unhide HA).2.1 (by omega))
            clear hform HA
            go_wp2
            try rw [Exit.noGoto_ret]
            go_ret2
            exact ⟨_, _, 0, unhide HS, ret2_int (unhide HE) rfl, rfl⟩
          · have HE := hide (or_lo n i s[i].toNat (unhide HA).2.1 h128 (by omega))
            have h9' : ((i : Int) == 9) = false := beq_eq_false_iff_ne.2 (by omega)
            by_cases hi0 : 0 < i
            · have h0 : 0 < s[i].toNat := by omega
              clear hform HA h9
              go_wp2
              try rw [Exit.noGoto_ret]
              go_ret2
              exact ⟨_, _, 0, unhide HS, ret2_int (unhide HE) (by omega), rfl⟩
            · clear hform HA h9
              go_wp2
              try rw [Exit.noGoto_ret]
              go_ret2
              exact ⟨_, _, 0, unhide HS, ret2_int (unhide HE) (by omega), rfl⟩
        · have HS := hide ((unhide HA).step hlt hform h128)
          have h9 : ¬ i = 9 := by omega
          have HE := hide (or_hi n i s[i].toNat (unhide HA).2.1 h128 (by omega) (by omega))
          have h9' : ((i : Int) == 9) = false := beq_eq_false_iff_ne.2 (by omega)
          have h0 : 0 < s[i].toNat := by omega
          clear hform HA h9
          go_wp2
          all_goals go_round
          all_goals first | exact ⟨i + 1, _, by omega, by go_num, rfl, int_eq (unhide HE), unhide HS⟩ | (simp [intOf]; omega)
    · have HF := hide ((unhide HA).out (by omega))
      clear HA
      go_wp2_with (go_at_call 248; refine (tell41 _ _ _ _ _ _ (unhide HC) (unhide HR)).mono ?_; rintro e w' ⟨rfl, rfl⟩)
      try rw [Exit.noGoto_ret]
      go_ret2
      exact ⟨0, 0, 20, unhide HF, rfl, rfl⟩
end Go.Proofs.YtdelobaiicoogaaGreatDoor.L6

/- The short number at the beginning of a text, as a text's length; the copy of a text; the text at the beginning. -/
namespace Go.Proofs.YtdelobaiicoogaaGreatDoor.L6
open Go.ChangeShapes Go.WideShapes Go.ChangeAt Go.RowKit

set_option maxRecDepth 10000 in
set_option maxHeartbeats 2000000 in
theorem shortAhead42 (c r e : Nat) (L s : ByteArray) (w : World) (hs : s.size ≤ maxLen) (hc : w.cell? ⟨c, 0, none⟩ = some (.pointer (some ⟨r, 0, none⟩))) (hr : Rd w r L e) :
    Calls Tryz.prog 253 #[.string s, .func (.func 270) #[] #[.pointer (some ⟨c, 0, none⟩)]] w fun e w' => ∃ n k er : Nat, Pk.scan (bn s) = (n, k, er) ∧ e = .returned (.tuple #[.int .u64 (n : Int), .int .i64 (k : Int)]) ∧ w' = tellW w r er := by
  unfold maxLen at hs
  have HC := hide hc
  have HR := hide hr
  clear hc hr
  go_enter Tryz.func253, Tryz.ntmps253
  go_wp2
  go_step3
  go_wp2
  go_step3
  go_wp2
  go_loop [6, 7, 12] (fun t u j => ∃ i n : Nat, i ≤ s.size ∧ j = .int .i64 i ∧ u = .int .i64 20 ∧ t = .int .u64 n ∧ At s i n) (fun _ _ j => s.size - (intOf j).toNat)
  case atStart => exact ⟨0, 0, by omega, rfl, rfl, rfl, by omega, by decide, rfl⟩
  case round =>
    obtain ⟨i, n, hi, rfl, rfl, rfl, hat⟩ := hrel
    have hi9 : i ≤ 9 := hat.1
    have HA := hide hat
    clear hat
    by_cases hlt : i < s.size
    · have hb : (s[i].toNat : Int) < 256 := by have := s[i].toNat_lt; omega
      by_cases hform : (i = 9 ∧ 1 < s[i].toNat) ∨ (0 < i ∧ s[i].toNat = 0)
      · have HF := hide ((unhide HA).bad hlt hform)
        by_cases h9 : i = 9
        · subst h9
          by_cases h1 : 1 < s[9].toNat
          · clear hform HA
            go_wp2_with (go_at_call 270; refine (tell42 _ _ _ _ _ _ (unhide HC) (unhide HR)).mono ?_; rintro e w' ⟨rfl, rfl⟩)
            try rw [Exit.noGoto_ret]
            go_ret2
            exact ⟨0, 0, 21, unhide HF, rfl, rfl⟩
          · have h0 : s[9].toNat = 0 := by omega
            clear hform HA h1
            go_wp2_with (go_at_call 270; refine (tell42 _ _ _ _ _ _ (unhide HC) (unhide HR)).mono ?_; rintro e w' ⟨rfl, rfl⟩)
            try rw [Exit.noGoto_ret]
            go_ret2
            exact ⟨0, 0, 21, unhide HF, rfl, rfl⟩
        · have h0 : s[i].toNat = 0 := by omega
          have hi0 : 0 < i := by omega
          have h9' : ((i : Int) == 9) = false := beq_eq_false_iff_ne.2 (by omega)
          clear hform HA h9
          go_wp2_with (go_at_call 270; refine (tell42 _ _ _ _ _ _ (unhide HC) (unhide HR)).mono ?_; rintro e w' ⟨rfl, rfl⟩)
          try rw [Exit.noGoto_ret]
          go_ret2
          exact ⟨0, 0, 21, unhide HF, rfl, rfl⟩
      · have HF := hide hform
        by_cases h128 : s[i].toNat < 128
        · have HS := hide ((unhide HA).stop hlt hform h128)
          by_cases h9 : i = 9
          · subst h9
            have h1 : ¬ 1 < s[9].toNat := by omega
            have h0 : 0 < s[9].toNat := by omega
            have HE := hide (or9 n s[9].toNat (unhide HA).2.1 (by omega))
            clear hform HA
            go_wp2
            try rw [Exit.noGoto_ret]
            go_ret2
            exact ⟨_, _, 0, unhide HS, ret2_int (unhide HE) rfl, rfl⟩
          · have HE := hide (or_lo n i s[i].toNat (unhide HA).2.1 h128 (by omega))
            have h9' : ((i : Int) == 9) = false := beq_eq_false_iff_ne.2 (by omega)
            by_cases hi0 : 0 < i
            · have h0 : 0 < s[i].toNat := by omega
              clear hform HA h9
              go_wp2
              try rw [Exit.noGoto_ret]
              go_ret2
              exact ⟨_, _, 0, unhide HS, ret2_int (unhide HE) (by omega), rfl⟩
            · clear hform HA h9
              go_wp2
              try rw [Exit.noGoto_ret]
              go_ret2
              exact ⟨_, _, 0, unhide HS, ret2_int (unhide HE) (by omega), rfl⟩
        · have HS := hide ((unhide HA).step hlt hform h128)
          have h9 : ¬ i = 9 := by omega
          have HE := hide (or_hi n i s[i].toNat (unhide HA).2.1 h128 (by omega) (by omega))
          have h9' : ((i : Int) == 9) = false := beq_eq_false_iff_ne.2 (by omega)
          have h0 : 0 < s[i].toNat := by omega
          clear hform HA h9
          go_wp2
          all_goals go_round
          all_goals first | exact ⟨i + 1, _, by omega, by go_num, rfl, int_eq (unhide HE), unhide HS⟩ | (simp [intOf]; omega)
    · have HF := hide ((unhide HA).out (by omega))
      clear HA
      go_wp2_with (go_at_call 270; refine (tell42 _ _ _ _ _ _ (unhide HC) (unhide HR)).mono ?_; rintro e w' ⟨rfl, rfl⟩)
      try rw [Exit.noGoto_ret]
      go_ret2
      exact ⟨0, 0, 20, unhide HF, rfl, rfl⟩
end Go.Proofs.YtdelobaiicoogaaGreatDoor.L6

/- What the copy of a text is: the same bytes (the library's own contract of that function, laid at this program's numbers). -/
namespace Go.Proofs.YtdelobaiicoogaaGreatDoor.L6
open Go.ChangeShapes Go.WideShapes Go.ChangeAt Go.RowKit Go.Shelf

/-- the shelf's numbers, as this program has them -/
def ren : Ren := ⟨fun n => if n = 25 then 139 else n, fun n => if n = 37 then 140 else if n = 47 then 287 else n, fun n => n⟩
theorem lays : LaysPu.n25 Tryz.prog ren where
  mixed := by kernel_rfl
  f25 := by kernel_rfl
  t0 := by kernel_rfl
  a0 := fun _ => by kernel_rfl
  z0 := fun _ => by kernel_rfl
  v0 := fun _ => by kernel_rfl
  i0 := by kernel_rfl
  t3 := by kernel_rfl
  a3 := fun _ => by kernel_rfl
  z3 := fun _ => by kernel_rfl
  v3 := fun _ => by kernel_rfl
  i3 := by kernel_rfl
  t4 := by kernel_rfl
  a4 := fun _ => by kernel_rfl
  z4 := fun _ => by kernel_rfl
  v4 := fun _ => by kernel_rfl
  i4 := by kernel_rfl
  t5 := by kernel_rfl
  a5 := fun _ => by kernel_rfl
  z5 := fun _ => by kernel_rfl
  v5 := fun _ => by kernel_rfl
  i5 := by kernel_rfl
  t9 := by kernel_rfl
  a9 := fun _ => by kernel_rfl
  z9 := fun _ => by kernel_rfl
  v9 := fun _ => by kernel_rfl
  i9 := by kernel_rfl
  t37 := by kernel_rfl
  a37 := fun _ => by kernel_rfl
  z37 := fun _ => by kernel_rfl
  v37 := fun _ => by kernel_rfl
  i37 := by kernel_rfl
  t47 := by kernel_rfl
  a47 := fun _ => by kernel_rfl
  z47 := fun _ => by kernel_rfl
  v47 := fun _ => by kernel_rfl
  i47 := by kernel_rfl

theorem sclone_any (s : ByteArray) (w : World) (hlim : s.size ≤ 1000000) :
    Calls Tryz.prog 139 #[.string s] w fun e w' => e = .returned (.string s) ∧ Below w.heap.size w w' :=
  AnyPu.stringslite_Clone lays s w (by omega)

set_option maxHeartbeats 400000 in
theorem clone_any (s : ByteArray) (w : World) (hlim : s.size ≤ 1000000) :
    Calls Tryz.prog 106 #[.string s] w fun e w' => e = .returned (.string s) ∧ Below w.heap.size w w' := by
  go_enter Tryz.func106, Tryz.ntmps106
  go_wp2_with (go_at_call 139; refine (sclone_any _ _ hlim).mono ?_; rintro e w' ⟨rfl, hb⟩)
  go_ret
  exact ⟨rfl, hb⟩
end Go.Proofs.YtdelobaiicoogaaGreatDoor.L6

/- The text at the beginning of a text. -/
namespace Go.Proofs.YtdelobaiicoogaaGreatDoor.L6
open Go.ChangeShapes Go.WideShapes Go.ChangeAt Go.RowKit

/-- the text at the front, of at most so many bytes: the text, its size with its length, the error -/
def textOf (s : ByteArray) (most : Int) : ByteArray × Nat × Nat :=
  if (Pk.scan (bn s)).2.2 ≠ 0 then (⟨#[]⟩, 0, (Pk.scan (bn s)).2.2)
  else if most < 0 ∨ most < ((Pk.scan (bn s)).1 : Int) then (⟨#[]⟩, 0, 22)
  else if s.size - (Pk.scan (bn s)).2.1 < (Pk.scan (bn s)).1 then (⟨#[]⟩, 0, 20)
  else (s.extract (Pk.scan (bn s)).2.1 ((Pk.scan (bn s)).2.1 + (Pk.scan (bn s)).1), (Pk.scan (bn s)).2.1 + (Pk.scan (bn s)).1, 0)

theorem scan_cases (s : ByteArray) : (∃ n k, Pk.scan (bn s) = (n, k, 0) ∧ n < 18446744073709551616 ∧ 0 < k ∧ k ≤ 10 ∧ k ≤ s.size ∧ k = (Pk.shL n).length ∧ (bn s).take k = Pk.shL n) ∨ (∃ er, Pk.scan (bn s) = (0, 0, er) ∧ er ≠ 0 ∧ er ≤ 21 ∧ 20 ≤ er) := by
  rcases Pk.scan_one (bn s) (bn_lt s) with ⟨n, e, h1, h2, h3⟩ | e | e
  · rw [bn_length] at h2
    exact .inl ⟨n, _, e, h1, Pk.shL_pos n, Pk.shL_le n, h2, rfl, h3⟩
  · exact .inr ⟨20, e, by decide, by decide, by decide⟩
  · exact .inr ⟨21, e, by decide, by decide, by decide⟩

/-- nothing but the reader has turned, and the reader is this -/
def Told (w w' : World) (r : Nat) (L : ByteArray) (e : Nat) : Prop := w.grownBy w' (some r) ∧ Rd w' r L e
theorem grown_refl (w : World) (r : Option Nat) : w.grownBy w r := ⟨rfl, rfl, rfl, Nat.le_refl _, fun _ _ _ => rfl⟩
theorem grown_set (w : World) (g j : Nat) (u : Value) : w.grownBy (w.setCell ⟨g, j, none⟩ u) (some g) :=
  ⟨rfl, rfl, rfl, by simp, fun k _ hne => Below.heap_setCell w ⟨g, j, none⟩ u k (fun e => hne (by rw [e]))⟩
theorem grown_trans {a b c : World} {r : Option Nat} (h : a.grownBy b r) (k : b.grownBy c r) : a.grownBy c r :=
  ⟨k.os.trans h.os, k.tape.trans h.tape, k.output.trans h.output, Nat.le_trans h.size k.size, fun i hi hne => (k.block i (Nat.lt_of_lt_of_le hi h.size) hne).trans (h.block i hi hne)⟩
theorem grown_below {w w' : World} (h : Below w.heap.size w w') (r : Option Nat) : w.grownBy w' r := ⟨h.os, h.tape, h.output, h.size, fun k hk _ => h.block k hk⟩
theorem Rd.below {w w' : World} {r e : Nat} {L : ByteArray} (h : Rd w r L e) (hb : Below w.heap.size w w') : Rd w' r L e := (hb.block r h.lt).trans h
theorem Told.refl {w : World} {r e : Nat} {L : ByteArray} (h : Rd w r L e) : Told w w r L e := ⟨grown_refl _ _, h⟩
theorem Told.err {w : World} {r e : Nat} {L : ByteArray} (h : Rd w r L e) (e' : Nat) : Told w (w.setCell ⟨r, 1, none⟩ (.int .i64 (e' : Int))) r L e' := ⟨grown_set _ _ _ _, h.setErr e'⟩
theorem Told.tell {w : World} {r : Nat} {L : ByteArray} (h : Rd w r L 0) (e' : Nat) : Told w (tellW w r e') r L e' := by
  unfold tellW
  split
  · rename_i h0; subst h0; exact .refl h
  · exact .err h e'

theorem textOf_bad {s : ByteArray} {er : Nat} (most : Int) (h : Pk.scan (bn s) = (0, 0, er)) (h0 : er ≠ 0) : textOf s most = (⟨#[]⟩, 0, er) := by
  unfold textOf
  rw [h, if_pos h0]
theorem textOf_long {s : ByteArray} {n k : Nat} {most : Int} (h : Pk.scan (bn s) = (n, k, 0)) (hm : most < 0 ∨ most < (n : Int)) : textOf s most = (⟨#[]⟩, 0, 22) := by
  unfold textOf
  rw [h, if_neg (by simp), if_pos hm]
theorem textOf_short {s : ByteArray} {n k : Nat} {most : Int} (h : Pk.scan (bn s) = (n, k, 0)) (hm : ¬ (most < 0 ∨ most < (n : Int))) (hl : s.size - k < n) : textOf s most = (⟨#[]⟩, 0, 20) := by
  unfold textOf
  rw [h, if_neg (by simp), if_neg hm, if_pos hl]
theorem textOf_ok {s : ByteArray} {n k : Nat} {most : Int} (h : Pk.scan (bn s) = (n, k, 0)) (hm : ¬ (most < 0 ∨ most < (n : Int))) (hl : ¬ s.size - k < n) : textOf s most = (s.extract k (k + n), k + n, 0) := by
  unfold textOf
  rw [h, if_neg (by simp), if_neg hm, if_neg hl]

theorem ret2_si {k : IntKind} {t : ByteArray} {a b : Int} (h : a = b) : Ending.returned (.tuple #[.string t, .int k a]) = .returned (.tuple #[.string t, .int k b]) := by rw [h]

set_option maxRecDepth 10000 in
set_option maxHeartbeats 2000000 in
theorem textAhead42 (c r : Nat) (L s : ByteArray) (most : Int) (w : World) (hs : s.size ≤ 1000000) (hm : -9223372036854775808 ≤ most ∧ most ≤ 9223372036854775807) (hc : w.cell? ⟨c, 0, none⟩ = some (.pointer (some ⟨r, 0, none⟩))) (hr : Rd w r L 0) :
    Calls Tryz.prog 256 #[.string s, .int .i64 most, .func (.func 270) #[] #[.pointer (some ⟨c, 0, none⟩)]] w fun e w' => e = .returned (.tuple #[.string (textOf s most).1, .int .i64 ((textOf s most).2.1 : Int)]) ∧ Told w w' r L (textOf s most).2.2 := by
  have hS := (shortAhead42 c r 0 L s w (by unfold maxLen; omega) hc hr)
  have HC := hide hc
  have HR := hide hr
  clear hc hr
  rcases scan_cases s with ⟨n, k, hsc, hn, hk0, hk10, hks, hx1, hx2⟩ | ⟨er, hsc, h0, _, _⟩
  · clear hx1 hx2
    have hS' : Calls Tryz.prog 253 #[.string s, .func (.func 270) #[] #[.pointer (some ⟨c, 0, none⟩)]] w fun e w' => e = .returned (.tuple #[.int .u64 (n : Int), .int .i64 (k : Int)]) ∧ w' = w := by
      refine hS.mono ?_
      rintro e w' ⟨n', k', er, h, rfl, rfl⟩
      rw [hsc] at h
      obtain ⟨rfl, rfl, rfl⟩ : n = n' ∧ k = k' ∧ 0 = er := by simpa using h
      exact ⟨rfl, rfl⟩
    have HS := hide hS'
    clear hS hS'
    by_cases hlong : most < 0 ∨ most < (n : Int)
    · rw [textOf_long hsc hlong]
      clear hsc
      by_cases hneg : most < 0
      · clear hlong
        go_enter Tryz.func256, Tryz.ntmps256
        go_wp2_with (first
          | (go_at_call 253; refine (unhide HS).mono ?_; rintro e w' ⟨rfl, hw⟩; have hw := hw.symm; subst hw)
          | (go_at_call 270; refine (tell42 _ _ _ _ _ _ (unhide HC) (unhide HR)).mono ?_; rintro e w' ⟨rfl, rfl⟩))
        go_ret2
        exact ⟨rfl, Told.err (unhide HR) 22⟩
      · have hlt : most < (n : Int) := by omega
        clear hlong
        go_enter Tryz.func256, Tryz.ntmps256
        go_wp2_with (first
          | (go_at_call 253; refine (unhide HS).mono ?_; rintro e w' ⟨rfl, hw⟩; have hw := hw.symm; subst hw)
          | (go_at_call 270; refine (tell42 _ _ _ _ _ _ (unhide HC) (unhide HR)).mono ?_; rintro e w' ⟨rfl, rfl⟩))
        go_ret2
        exact ⟨rfl, Told.err (unhide HR) 22⟩
    · have hneg : ¬ most < 0 := by omega
      have hge : ¬ most < (n : Int) := by omega
      by_cases hfew : s.size - k < n
      · rw [textOf_short hsc hlong hfew]
        clear hsc hlong
        go_enter Tryz.func256, Tryz.ntmps256
        go_wp2_with (first
          | (go_at_call 253; refine (unhide HS).mono ?_; rintro e w' ⟨rfl, hw⟩; have hw := hw.symm; subst hw)
          | (go_at_call 270; refine (tell42 _ _ _ _ _ _ (unhide HC) (unhide HR)).mono ?_; rintro e w' ⟨rfl, rfl⟩))
        go_ret2
        exact ⟨rfl, Told.err (unhide HR) 20⟩
      · rw [textOf_ok hsc hlong hfew]
        clear hsc hlong
        have hsum : k + n ≤ s.size := by omega
        go_enter Tryz.func256, Tryz.ntmps256
        go_wp2_with (first
          | (go_at_call 253; refine (unhide HS).mono ?_; rintro e w' ⟨rfl, hw⟩; have hw := hw.symm; subst hw)
          | (go_at_call 106; refine (clone_any _ _ (by simp; omega)).mono ?_; rintro e w' ⟨rfl, hb⟩))
        go_ret2
        exact ⟨ret2_si (by omega), grown_below hb _, (unhide HR).below hb⟩
  · have hS' : Calls Tryz.prog 253 #[.string s, .func (.func 270) #[] #[.pointer (some ⟨c, 0, none⟩)]] w fun e w' => e = .returned (.tuple #[.int .u64 0, .int .i64 0]) ∧ w' = w.setCell ⟨r, 1, none⟩ (.int .i64 (er : Int)) := by
      refine hS.mono ?_
      rintro e w' ⟨n', k', er', h, rfl, rfl⟩
      rw [hsc] at h
      obtain ⟨rfl, rfl, rfl⟩ : 0 = n' ∧ 0 = k' ∧ er = er' := by simpa using h
      refine ⟨rfl, ?_⟩
      unfold tellW
      rw [if_neg h0]
    have HS := hide hS'
    clear hS hS'
    rw [textOf_bad most hsc h0]
    clear hsc
    go_enter Tryz.func256, Tryz.ntmps256
    go_wp2_with (go_at_call 253; refine (unhide HS).mono ?_; rintro e w' ⟨rfl, rfl⟩)
    go_ret2
    exact ⟨rfl, Told.err (unhide HR) er⟩

set_option maxRecDepth 10000 in
set_option maxHeartbeats 400000 in
theorem textClosure (c r d : Nat) (L s : ByteArray) (most : Int) (w : World) (hs : s.size ≤ 1000000) (hm : -9223372036854775808 ≤ most ∧ most ≤ 9223372036854775807) (hd : w.cell? ⟨d, 0, none⟩ = some (.int .i64 most)) (hc : w.cell? ⟨c, 0, none⟩ = some (.pointer (some ⟨r, 0, none⟩))) (hr : Rd w r L 0) :
    Calls Tryz.prog 255 #[.string s, .func (.func 270) #[] #[.pointer (some ⟨c, 0, none⟩)], .pointer (some ⟨d, 0, none⟩)] w fun e w' => e = .returned (.tuple #[.string (textOf s most).1, .int .i64 ((textOf s most).2.1 : Int)]) ∧ Told w w' r L (textOf s most).2.2 := by
  have HS := hide (textAhead42 c r L s most w hs hm hc hr)
  clear hc hr
  generalize textOf s most = T at *
  go_enter Tryz.func255, Tryz.ntmps255
  go_wp2_with (go_at_call 256; refine (unhide HS).mono ?_; rintro e w' ⟨rfl, ht⟩)
  go_ret2
  exact ⟨rfl, ht⟩
end Go.Proofs.YtdelobaiicoogaaGreatDoor.L6

/- What take does: it goes on behind what stands ahead. -/
namespace Go.Proofs.YtdelobaiicoogaaGreatDoor.L6
open Go.ChangeShapes Go.WideShapes Go.ChangeAt Go.RowKit

set_option maxHeartbeats 400000 in
theorem err_any (r e : Nat) (L : ByteArray) (w : World) (hr : Rd w r L e) :
    Calls Tryz.prog 235 #[.pointer (some ⟨r, 0, none⟩)] w fun x w' => x = .returned (.int .i64 (e : Int)) ∧ w' = w := by
  have h1 := hr.cell1
  clear hr
  go_enter Tryz.func235, Tryz.ntmps235
  go_wp2
  go_ret
  exact ⟨rfl, rfl⟩
theorem Rd.alloc {w : World} {r e : Nat} {L : ByteArray} (h : Rd w r L e) (o : Obj) : Rd (w.alloc o) r L e := h.below ((Below.refl _ _).alloc (Nat.le_refl _) o)
theorem Rd.drew {w : World} {r e : Nat} {L : ByteArray} (h : Rd w r L e) : Rd w.drew r L e := h.below (Below.refl _ _).drew
theorem grown_drew (w : World) (r : Option Nat) : w.grownBy w.drew r := grown_below (Below.refl _ _).drew r
theorem grown_alloc (w : World) (o : Obj) (r : Option Nat) : w.grownBy (w.alloc o) r := grown_below ((Below.refl _ _).alloc (Nat.le_refl _) o) r
/-- behind the store -/
theorem Told.left {w w' : World} {o : Obj} {r e : Nat} {L : ByteArray} (h : Told (w.alloc o) w' r L e) (L' : ByteArray) : Told w (w'.setCell ⟨r, 0, none⟩ (.string L')).drew r L' e :=
  ⟨grown_trans (grown_trans (grown_trans (grown_alloc w o _) h.1) (grown_set _ _ _ _)) (grown_drew _ _), (h.2.setLeft L').drew⟩
theorem Told.box {w w' : World} {r e : Nat} {L : ByteArray} {v : Value} {t : TypeId} (h : Told (w.alloc (.cells #[v] t)) w' r L e) (hr : r < w.heap.size) : w'.cell? ⟨w.heap.size, 0, none⟩ = some v :=
  World.grownBy.cell h.1 (by simp) (by simp; omega)

set_option maxRecDepth 10000 in
set_option maxHeartbeats 1000000 in
theorem take_err_u8 (v : Value) (r e : Nat) (L : ByteArray) (w : World) (hr : Rd w r L e) (h0 : e ≠ 0) :
    Calls Tryz.prog 223 #[.pointer (some ⟨r, 0, none⟩), v] w fun x w' => x = .returned (.int .u8 0) ∧ Told w w' r L e := by
  have HE := hide (err_any r e L _ (hr.alloc (.cells #[.pointer (some ⟨r, 0, none⟩)] 297)))
  have HR := hide hr
  clear hr
  have hne : ((e : Int) == 0) = false := beq_eq_false_iff_ne.2 (by omega)
  have hne2 : ((e : Int) != 0) = true := bne_iff_ne.2 (by omega)
  clear h0
  go_enter Tryz.func223, Tryz.ntmps223
  go_wp2_with (go_at_call 235; refine (unhide HE).mono ?_; rintro x w' ⟨rfl, rfl⟩)
  go_ret
  exact ⟨rfl, grown_alloc _ _ _, (unhide HR).alloc _⟩
set_option maxRecDepth 10000 in
set_option maxHeartbeats 1000000 in
theorem take_err_u64 (v : Value) (r e : Nat) (L : ByteArray) (w : World) (hr : Rd w r L e) (h0 : e ≠ 0) :
    Calls Tryz.prog 225 #[.pointer (some ⟨r, 0, none⟩), v] w fun x w' => x = .returned (.int .u64 0) ∧ Told w w' r L e := by
  have HE := hide (err_any r e L _ (hr.alloc (.cells #[.pointer (some ⟨r, 0, none⟩)] 297)))
  have HR := hide hr
  clear hr
  have hne : ((e : Int) == 0) = false := beq_eq_false_iff_ne.2 (by omega)
  have hne2 : ((e : Int) != 0) = true := bne_iff_ne.2 (by omega)
  clear h0
  go_enter Tryz.func225, Tryz.ntmps225
  go_wp2_with (go_at_call 235; refine (unhide HE).mono ?_; rintro x w' ⟨rfl, rfl⟩)
  go_ret
  exact ⟨rfl, grown_alloc _ _ _, (unhide HR).alloc _⟩
set_option maxRecDepth 10000 in
set_option maxHeartbeats 1000000 in
theorem take_err_str (v : Value) (r e : Nat) (L : ByteArray) (w : World) (hr : Rd w r L e) (h0 : e ≠ 0) :
    Calls Tryz.prog 254 #[.pointer (some ⟨r, 0, none⟩), v] w fun x w' => x = .returned (.string ⟨#[]⟩) ∧ Told w w' r L e := by
  have HE := hide (err_any r e L _ (hr.alloc (.cells #[.pointer (some ⟨r, 0, none⟩)] 297)))
  have HR := hide hr
  clear hr
  have hne : ((e : Int) == 0) = false := beq_eq_false_iff_ne.2 (by omega)
  have hne2 : ((e : Int) != 0) = true := bne_iff_ne.2 (by omega)
  clear h0
  go_enter Tryz.func254, Tryz.ntmps254
  go_wp2_with (go_at_call 235; refine (unhide HE).mono ?_; rintro x w' ⟨rfl, rfl⟩)
  go_ret
  exact ⟨rfl, grown_alloc _ _ _, (unhide HR).alloc _⟩
set_option maxRecDepth 10000 in
set_option maxHeartbeats 1000000 in
theorem take_byte (r k er : Nat) (n : Nat) (L : ByteArray) (w : World) (hr : Rd w r L 0) (_hL : L.size ≤ 1000000) (hk : k ≤ L.size)
    (hA : Calls Tryz.prog 224 #[.string L, .func (.func 247) #[] #[.pointer (some ⟨w.heap.size, 0, none⟩)]] (w.alloc (.cells #[.pointer (some ⟨r, 0, none⟩)] 297)) fun x w' =>
      x = .returned (.tuple #[.int .u8 (n : Int), .int .i64 (k : Int)]) ∧ Told (w.alloc (.cells #[.pointer (some ⟨r, 0, none⟩)] 297)) w' r L er) :
    Calls Tryz.prog 223 #[.pointer (some ⟨r, 0, none⟩), .func (.func 224) #[] #[]] w fun x w' => x = .returned (.int .u8 (n : Int)) ∧ Told w w' r (L.extract k L.size) er := by
  have HE := hide (err_any r 0 L _ (hr.alloc (.cells #[.pointer (some ⟨r, 0, none⟩)] 297)))
  have HA := hide hA
  have hlt := hr.lt
  have hne : ¬ r = w.heap.size := by omega
  have hc0 : (w.alloc (.cells #[.pointer (some ⟨r, 0, none⟩)] 297)).cell? ⟨r, 0, none⟩ = some (.string L) := (hr.alloc _).cell0
  clear hr hA
  go_enter Tryz.func223, Tryz.ntmps223
  go_wp2_with (first
    | (go_at_call 235; refine (unhide HE).mono ?_; rintro x w' ⟨rfl, rfl⟩)
    | (go_at_call 224; refine (unhide HA).mono ?_; rintro x w' ⟨rfl, ht⟩; have hb0 := ht.2.cell0; have hf0 := ht.2.free 0; have hbx := ht.box hlt; have HT := hide ht; clear ht))
  go_region
  all_goals go_wp2
  all_goals go_ret
  all_goals exact ⟨rfl, (unhide HT).left _⟩
set_option maxRecDepth 10000 in
set_option maxHeartbeats 1000000 in
theorem take_short (r k er : Nat) (n : Nat) (L : ByteArray) (w : World) (hr : Rd w r L 0) (_hL : L.size ≤ 1000000) (hk : k ≤ L.size)
    (hA : Calls Tryz.prog 253 #[.string L, .func (.func 248) #[] #[.pointer (some ⟨w.heap.size, 0, none⟩)]] (w.alloc (.cells #[.pointer (some ⟨r, 0, none⟩)] 297)) fun x w' =>
      x = .returned (.tuple #[.int .u64 (n : Int), .int .i64 (k : Int)]) ∧ Told (w.alloc (.cells #[.pointer (some ⟨r, 0, none⟩)] 297)) w' r L er) :
    Calls Tryz.prog 225 #[.pointer (some ⟨r, 0, none⟩), .func (.func 253) #[] #[]] w fun x w' => x = .returned (.int .u64 (n : Int)) ∧ Told w w' r (L.extract k L.size) er := by
  have HE := hide (err_any r 0 L _ (hr.alloc (.cells #[.pointer (some ⟨r, 0, none⟩)] 297)))
  have HA := hide hA
  have hlt := hr.lt
  have hne : ¬ r = w.heap.size := by omega
  have hc0 : (w.alloc (.cells #[.pointer (some ⟨r, 0, none⟩)] 297)).cell? ⟨r, 0, none⟩ = some (.string L) := (hr.alloc _).cell0
  clear hr hA
  go_enter Tryz.func225, Tryz.ntmps225
  go_wp2_with (first
    | (go_at_call 235; refine (unhide HE).mono ?_; rintro x w' ⟨rfl, rfl⟩)
    | (go_at_call 253; refine (unhide HA).mono ?_; rintro x w' ⟨rfl, ht⟩; have hb0 := ht.2.cell0; have hf0 := ht.2.free 0; have hbx := ht.box hlt; have HT := hide ht; clear ht))
  go_region
  all_goals go_wp2
  all_goals go_ret
  all_goals exact ⟨rfl, (unhide HT).left _⟩
set_option maxRecDepth 10000 in
set_option maxHeartbeats 1000000 in
theorem take_text (r k er : Nat) (n : ByteArray) (L : ByteArray) (w : World) (d : Nat) (hr : Rd w r L 0) (_hL : L.size ≤ 1000000) (hk : k ≤ L.size)
    (hA : Calls Tryz.prog 255 #[.string L, .func (.func 270) #[] #[.pointer (some ⟨w.heap.size, 0, none⟩)], .pointer (some ⟨d, 0, none⟩)] (w.alloc (.cells #[.pointer (some ⟨r, 0, none⟩)] 297)) fun x w' =>
      x = .returned (.tuple #[.string n, .int .i64 (k : Int)]) ∧ Told (w.alloc (.cells #[.pointer (some ⟨r, 0, none⟩)] 297)) w' r L er) :
    Calls Tryz.prog 254 #[.pointer (some ⟨r, 0, none⟩), .func (.func 255) #[] #[.pointer (some ⟨d, 0, none⟩)]] w fun x w' => x = .returned (.string n) ∧ Told w w' r (L.extract k L.size) er := by
  have HE := hide (err_any r 0 L _ (hr.alloc (.cells #[.pointer (some ⟨r, 0, none⟩)] 297)))
  have HA := hide hA
  have hlt := hr.lt
  have hne : ¬ r = w.heap.size := by omega
  have hc0 : (w.alloc (.cells #[.pointer (some ⟨r, 0, none⟩)] 297)).cell? ⟨r, 0, none⟩ = some (.string L) := (hr.alloc _).cell0
  clear hr hA
  go_enter Tryz.func254, Tryz.ntmps254
  go_wp2_with (first
    | (go_at_call 235; refine (unhide HE).mono ?_; rintro x w' ⟨rfl, rfl⟩)
    | (go_at_call 255; refine (unhide HA).mono ?_; rintro x w' ⟨rfl, ht⟩; have hb0 := ht.2.cell0; have hf0 := ht.2.free 0; have hbx := ht.box hlt; have HT := hide ht; clear ht))
  go_region
  all_goals go_wp2
  all_goals go_ret
  all_goals exact ⟨rfl, (unhide HT).left _⟩
end Go.Proofs.YtdelobaiicoogaaGreatDoor.L6
