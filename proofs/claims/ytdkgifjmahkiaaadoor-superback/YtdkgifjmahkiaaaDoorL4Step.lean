/- What the leaves do: the step of a byte by the table, and the sum of a text and of bytes, for every argument and in every world that holds the table. -/
import Derived.Test.YtdkgifjmahkiaaaDoorL4Kit
namespace Go.Proofs.YtdkgifjmahkiaaaDoor.L4
open Go.ChangeShapes Go.WideShapes Go.ChangeAt Go.RowKit

/-- the table lies in block 0 -/
def Tab (w : World) : Prop := ∀ i, i < 16 → w.cell? ⟨0, i, none⟩ = some (.int .u32 (Crc.tab i : Nat))

theorem and15 (x : Nat) (hx : x < 4294967296) : bits .and .u32 (x : Int) 15 = ((x % 16 : Nat) : Int) := by
  have h := u32_and_nat x 15 hx (by decide)
  have e : x &&& 15 = x % 16 := Nat.and_two_pow_sub_one_eq_mod x 4
  rw [e] at h
  exact h
theorem xor_u32 (a b : Nat) (ha : a < 4294967296) (hb : b < 4294967296) : bits .xor .u32 (a : Int) (b : Int) = ((a ^^^ b : Nat) : Int) := u32_xor_nat a b ha hb


/-- what the two tables' steps come to, in the walk's own spelling -/
def stepI (s b : Int) : Int :=
  bits .xor .u32 (bits .xor .u32 (bits .xor .u32 s b / 16) (Crc.tab (bits .and .u32 (bits .xor .u32 s b) 15).toNat : Nat) / 16)
    (Crc.tab (bits .and .u32 (bits .xor .u32 (bits .xor .u32 s b / 16) (Crc.tab (bits .and .u32 (bits .xor .u32 s b) 15).toNat : Nat)) 15).toNat : Nat)

theorem stepI_eq (s b : Nat) (hs : s < 4294967296) (hb : b < 256) : stepI s b = (Crc.bstep s b : Nat) := by
  have h1 : s ^^^ b < 4294967296 := by
    have : s ^^^ b < 2 ^ 32 := Nat.xor_lt_two_pow (by omega) (by omega)
    simpa using this
  have h2 : Crc.half (s ^^^ b) < 4294967296 := Crc.half_lt h1
  have e1 : bits .xor .u32 ((s : Nat) : Int) (b : Nat) = ((s ^^^ b : Nat) : Int) := xor_u32 s b hs (by omega)
  have step : ∀ x : Nat, x < 4294967296 → bits .xor .u32 ((x : Int) / 16) (Crc.tab (bits .and .u32 (x : Int) 15).toNat : Nat) = ((Crc.half x : Nat) : Int) := by
    intro x hx
    rw [and15 x hx, Int.toNat_natCast]
    have := xor_u32 (x / 16) (Crc.tab (x % 16)) (by omega) (Crc.tab_lt _)
    rw [Int.natCast_ediv] at this
    exact this
  unfold stepI
  rw [e1, step _ h1, step _ h2, Crc.halves_eq]

set_option maxHeartbeats 400000 in
theorem step_raw (s b : Int) (w : World) (c1 c2 : Nat) (hb : 0 ≤ b ∧ b < 256)
    (hi : 0 ≤ bits .and .u32 (bits .xor .u32 s b) 15 ∧ bits .and .u32 (bits .xor .u32 s b) 15 < 16)
    (hc : w.cell? ⟨0, (bits .and .u32 (bits .xor .u32 s b) 15).toNat, none⟩ = some (.int .u32 (c1 : Nat)))
    (hj : 0 ≤ bits .and .u32 (bits .xor .u32 (bits .xor .u32 s b / 16) c1) 15 ∧ bits .and .u32 (bits .xor .u32 (bits .xor .u32 s b / 16) c1) 15 < 16)
    (hd : w.cell? ⟨0, (bits .and .u32 (bits .xor .u32 (bits .xor .u32 s b / 16) c1) 15).toNat, none⟩ = some (.int .u32 (c2 : Nat))) :
    Calls Tryd.prog 53 #[.int .u32 s, .int .u8 b] w fun e w' => e = .returned (.int .u32 (bits .xor .u32 (bits .xor .u32 (bits .xor .u32 s b / 16) c1 / 16) c2)) ∧ w' = w := by
  go_enter Tryd.func53, Tryd.ntmps53
  go_wp2
  all_goals go_ret
  all_goals exact ⟨rfl, rfl⟩

theorem step_any (s b : Int) (w : World) (hT : Tab w) (hs : 0 ≤ s ∧ s < 4294967296) (hb : 0 ≤ b ∧ b < 256) :
    Calls Tryd.prog 53 #[.int .u32 s, .int .u8 b] w fun e w' => e = .returned (.int .u32 (Crc.bstep s.toNat b.toNat : Nat)) ∧ w' = w := by
  obtain ⟨S, rfl⟩ := Int.eq_ofNat_of_zero_le hs.1
  obtain ⟨B, rfl⟩ := Int.eq_ofNat_of_zero_le hb.1
  have hS : S < 4294967296 := by omega
  have hB : B < 256 := by omega
  have h1 : S ^^^ B < 4294967296 := by
    have : S ^^^ B < 2 ^ 32 := Nat.xor_lt_two_pow (by omega) (by omega)
    simpa using this
  have h2 : Crc.half (S ^^^ B) < 4294967296 := Crc.half_lt h1
  have e1 : bits .xor .u32 ((S : Nat) : Int) (B : Nat) = ((S ^^^ B : Nat) : Int) := xor_u32 S B hS (by omega)
  have e2 : bits .xor .u32 (((S ^^^ B : Nat) : Int) / 16) (Crc.tab ((S ^^^ B) % 16) : Nat) = ((Crc.half (S ^^^ B) : Nat) : Int) := by
    have := xor_u32 ((S ^^^ B) / 16) (Crc.tab ((S ^^^ B) % 16)) (by omega) (Crc.tab_lt _)
    rw [Int.natCast_ediv] at this
    exact this
  have e3 := stepI_eq S B hS hB
  have a1 := and15 (S ^^^ B) h1
  have a2 := and15 (Crc.half (S ^^^ B)) h2
  have H := step_raw S B w (Crc.tab ((S ^^^ B) % 16)) (Crc.tab (Crc.half (S ^^^ B) % 16)) hb
    (by rw [e1, a1]; omega) (by rw [e1, a1, Int.toNat_natCast]; exact hT _ (by omega))
    (by rw [e1, e2, a2]; omega) (by rw [e1, e2, a2, Int.toNat_natCast]; exact hT _ (by omega))
  refine H.mono fun e w' ⟨he, hw⟩ => ⟨?_, hw⟩
  rw [he, Int.toNat_natCast, Int.toNat_natCast, ← e3]
  unfold stepI
  rw [e1, a1, Int.toNat_natCast, e2, a2, Int.toNat_natCast]

theorem bn_take_lt (s : ByteArray) (k : Nat) : ∀ b ∈ (bn s).take k, b < 256 := fun b hb => bn_lt s b (List.mem_of_mem_take hb)
theorem bn_snoc (s : ByteArray) (k : Nat) (h : k < s.size) : (bn s).take (k + 1) = (bn s).take k ++ [s[k].toNat] := by
  rw [List.take_succ_eq_append_getElem (by rw [bn_length]; exact h)]
  simp only [bn, List.getElem_map]
  rfl

theorem not_u32 (n : Nat) (h : n < 4294967296) : bits .xor .u32 IntKind.u32.max (n : Int) = ((n ^^^ 4294967295 : Nat) : Int) := by
  have := xor_u32 4294967295 n (by decide) h
  rw [Nat.xor_comm] at this
  exact this

set_option maxHeartbeats 400000 in
theorem text_any (s : ByteArray) (w : World) (hT : Tab w) (hs : s.size ≤ maxLen) :
    Calls Tryd.prog 42 #[.string s] w fun e w' => e = .returned (.int .u32 (Crc.sum (bn s) : Nat)) ∧ w' = w := by
  unfold maxLen at hs
  have HT : Hid (Tab w) := hT
  clear hT
  go_enter Tryd.func42, Tryd.ntmps42
  go_wp2
  go_loop [3, 7] (fun t i => ∃ k : Nat, k ≤ s.size ∧ i = .int .i64 k ∧ t = .int .u32 (Crc.run 4294967295 ((bn s).take k) : Nat)) (fun _ i => s.size - (intOf i).toNat)
  case atStart => exact ⟨0, Nat.zero_le _, rfl, rfl⟩
  case round =>
    obtain ⟨k, hk, rfl, rfl⟩ := hrel
    have hr : Crc.run 4294967295 ((bn s).take k) < 4294967296 := Crc.run_lt _ (by decide) (bn_take_lt s k)
    by_cases hlt : k < s.size
    · have hb : (s[k].toNat : Int) < 256 := by have := s[k].toNat_lt; omega
      have HS : Hid (Crc.run 4294967295 ((bn s).take (k + 1)) = Crc.bstep (Crc.run 4294967295 ((bn s).take k)) s[k].toNat) := by
        show _ = _
        rw [bn_snoc s k hlt, Crc.run_snoc]
      generalize Crc.run 4294967295 ((bn s).take k) = r at *
      go_wp2_with (go_at_call 53; refine (step_any _ _ _ HT.out (by omega) (by omega)).mono ?_; rintro e w' ⟨rfl, rfl⟩)
      go_round
      case rel => exact ⟨k + 1, by omega, by go_num, by rw [HS.out]⟩
      case measure => simp [intOf]; omega
    · go_wp2
      go_ret
      refine ⟨ret_int ?_, rfl⟩
      have hall : (bn s).take k = bn s := List.take_of_length_le (by rw [bn_length]; omega)
      rw [hall] at hr ⊢
      exact not_u32 _ hr

/-- THE DOCUMENT's: eight shifts a byte -/
theorem and1 (x : Nat) (hx : x < 4294967296) : bits .and .u32 (x : Int) 1 = ((x % 2 : Nat) : Int) := by
  have h := u32_and_nat x 1 hx (by decide)
  rw [Nat.and_one_is_mod] at h
  exact h

theorem shn_succ (k x : Nat) : Crc.shn (k + 1) x = Crc.sh (Crc.shn k x) := by rw [Crc.shn_add]; rfl
theorem sh_odd (y : Nat) (h : y % 2 = 1) (hy : y < 4294967296) : bits .xor .u32 ((y : Int) / 2) 2197175160 = ((Crc.sh y : Nat) : Int) := by
  have := xor_u32 (y / 2) 2197175160 (by omega) (by decide)
  rw [Int.natCast_ediv] at this
  unfold Crc.sh
  rw [if_pos h]
  exact this
theorem sh_even (y : Nat) (h : ¬ y % 2 = 1) : (y : Int) / 2 = ((Crc.sh y : Nat) : Int) := by
  unfold Crc.sh
  rw [if_neg h]
  omega

set_option maxHeartbeats 400000 in
theorem refMore_any (c : Int) (s : ByteArray) (w : World) (hc : 0 ≤ c ∧ c < 4294967296) (hs : s.size ≤ maxLen) :
    Calls Tryd.prog 32 #[.int .u32 c, .string s] w fun e w' => e = .returned (.int .u32 (Crc.more c.toNat (bn s) : Nat)) ∧ w' = w := by
  unfold maxLen at hs
  obtain ⟨C, rfl⟩ := Int.eq_ofNat_of_zero_le hc.1
  have hC : C < 4294967296 := by omega
  have hn := not_u32 C hC
  have hnl := Crc.not_lt hC
  rw [Int.toNat_natCast]
  go_enter Tryd.func32, Tryd.ntmps32
  go_wp2
  go_loop [0, 5] (fun t i => ∃ k : Nat, k ≤ s.size ∧ i = .int .i64 k ∧ t = .int .u32 (Crc.run (C ^^^ 4294967295) ((bn s).take k) : Nat)) (fun _ i => s.size - (intOf i).toNat)
  case atStart => exact ⟨0, Nat.zero_le _, rfl, rfl⟩
  case round =>
    obtain ⟨k, hk, rfl, rfl⟩ := hrel
    clear hn
    have hr : Crc.run (C ^^^ 4294967295) ((bn s).take k) < 4294967296 := Crc.run_lt _ hnl (bn_take_lt s k)
    by_cases hlt : k < s.size
    · have hb : s[k].toNat < 256 := s[k].toNat_lt
      have HS : Hid (Crc.run (C ^^^ 4294967295) ((bn s).take (k + 1)) = Crc.bstep (Crc.run (C ^^^ 4294967295) ((bn s).take k)) s[k].toNat) := by
        show _ = _
        rw [bn_snoc s k hlt, Crc.run_snoc]
      generalize Crc.run (C ^^^ 4294967295) ((bn s).take k) = r at *
      have hx := xor_u32 r s[k].toNat hr (by omega)
      have hxl : r ^^^ s[k].toNat < 4294967296 := by
        have : r ^^^ s[k].toNat < 2 ^ 32 := Nat.xor_lt_two_pow (by omega) (by omega)
        simpa using this
      go_wp2
      go_loop [0, 6] (fun t i => ∃ m : Nat, m ≤ 8 ∧ i = .int .i64 m ∧ t = .int .u32 (Crc.shn m (r ^^^ s[k].toNat) : Nat)) (fun _ i => 8 - (intOf i).toNat)
      case atStart => exact ⟨0, Nat.zero_le _, rfl, rfl⟩
      case round =>
        obtain ⟨m, hm, rfl, rfl⟩ := hrel
        have hy : Crc.shn m (r ^^^ s[k].toNat) < 4294967296 := Crc.shn_lt m hxl
        have HM : Hid (Crc.shn (m + 1) (r ^^^ s[k].toNat) = Crc.sh (Crc.shn m (r ^^^ s[k].toNat))) := shn_succ _ _
        have HE : Hid (m = 8 → Crc.shn m (r ^^^ s[k].toNat) = Crc.bstep r s[k].toNat) := fun h => by rw [h]; rfl
        clear hx
        by_cases hlt8 : m < 8
        · clear HE
          generalize Crc.shn m (r ^^^ s[k].toNat) = y at *
          by_cases ho : y % 2 = 1
          · have ha : bits .and .u32 (y : Int) 1 = 1 := by rw [and1 y hy, ho]; rfl
            have hz := sh_odd y ho hy
            clear ho
            go_wp2
            go_round
            case rel => exact ⟨m + 1, by omega, by go_num, by rw [HM.out]⟩
            case measure => simp [intOf]; omega
          · have ha : bits .and .u32 (y : Int) 1 = 0 := by rw [and1 y hy]; omega
            have HZ : Hid ((y : Int) / 2 = ((Crc.sh y : Nat) : Int)) := sh_even y ho
            clear ho
            go_wp2
            go_round
            case rel => exact ⟨m + 1, by omega, by go_num, by rw [HM.out, HZ.out]⟩
            case measure => simp [intOf]; omega
        · have HF := HE.out (by omega)
          clear HE HM
          generalize Crc.shn m (r ^^^ s[k].toNat) = y at *
          have HF' : Hid (y = Crc.bstep r s[k].toNat) := HF
          clear HF
          go_wp2
          go_round
          case rel => exact ⟨k + 1, by omega, by go_num, by rw [HS.out, HF'.out]⟩
          case measure => simp [intOf]; omega
    · go_wp2
      go_ret
      refine ⟨ret_int ?_, rfl⟩
      have hall : (bn s).take k = bn s := List.take_of_length_le (by rw [bn_length]; omega)
      rw [hall] at hr ⊢
      exact not_u32 _ hr
set_option maxHeartbeats 400000 in
theorem refSum_any (s : ByteArray) (w : World) (hs : s.size ≤ maxLen) :
    Calls Tryd.prog 23 #[.string s] w fun e w' => e = .returned (.int .u32 (Crc.sum (bn s) : Nat)) ∧ w' = w := by
  go_enter Tryd.func23, Tryd.ntmps23
  go_wp2_with (go_at_call 32; refine (refMore_any _ _ _ (by omega) hs).mono ?_; rintro e w' ⟨rfl, rfl⟩)
  go_ret
  exact ⟨rfl, rfl⟩

end Go.Proofs.YtdkgifjmahkiaaaDoor.L4
