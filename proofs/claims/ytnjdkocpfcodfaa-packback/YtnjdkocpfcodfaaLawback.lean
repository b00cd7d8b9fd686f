/- The walk of the law PackBack. -/
import Derived.Test.YtnjdkocpfcodfaaBackmath
import Derived.Test.YtnjdkocpfcodfaaArgs
import Derived.Deep.RegionHeld3
namespace Go.Proofs.Ytnjdkocpfcodfaa
open Go.ChangeShapes Go.WideShapes Go.ChangeAt Go.RowKit

set_option maxRecDepth 10000 in
set_option maxHeartbeats 1000000 in
theorem back_out (a0 a1 : Option Addr) (len0 cap0 len1 cap1 : Nat) (W : World) (h0 : len0 ≤ maxLen) (h1 : len1 ≤ maxLen) (h : 100 < len0 ∨ 100 < len1) :
    Calls Try.prog 5 #[.slice a0 len0 cap0, .slice a1 len1 cap1] W fun e w' => e = .returned (.bool true) ∧ Below W.heap.size W w' := by
  unfold maxLen at h0 h1
  by_cases k0 : 100 < len0
  · clear h
    go_enter Try.func5, Try.ntmps5
    go_wp2_with (go_at_call 10; refine (awake_any _).mono ?_; rintro x w0 ⟨rfl, hb0⟩)
    go_ret
    exact ⟨rfl, hb0⟩
  · have k1 : 100 < len1 := by omega
    clear h
    go_enter Try.func5, Try.ntmps5
    go_wp2_with (go_at_call 10; refine (awake_any _).mono ?_; rintro x w0 ⟨rfl, hb0⟩)
    go_ret
    exact ⟨rfl, hb0⟩

/-- a reader of one's own -/
def One (W w : World) (r : Nat) (L : ByteArray) : Prop := Below W.heap.size W w ∧ Rd w r L 0 ∧ W.heap.size ≤ r ∧ L.size ≤ 1000000
theorem One.drew {W w : World} {r : Nat} {L : ByteArray} (h : One W w r L) : One W w.drew r L := ⟨h.1.drew, h.2.1.drew, h.2.2⟩
theorem One.step {W w w' : World} {r : Nat} {L L1 : ByteArray} (h : One W w r L) (t : Told w w' r L1 0) (hs : L1.size ≤ L.size) : One W w' r L1 :=
  ⟨below_told h.1 h.1.size t h.2.2.1, t.2, h.2.2.1, Nat.le_trans hs h.2.2.2⟩
theorem held {W w : World} {b o : Nat} {v : Value} (h : Hid (∀ w', Below W.heap.size W w' → w'.cell? ⟨b, o, none⟩ = some v)) (hb : Below W.heap.size W w) : Below W.heap.size W w ∧ w.cell? ⟨b, o, none⟩ = some v := ⟨hb, unhide h _ hb⟩
theorem size_le8 (L : ByteArray) : (L.extract 8 L.size).size ≤ L.size := by rw [ByteArray.size_extract]; omega
theorem held_of {W : World} {b o : Nat} {v : Value} (c : W.cell? ⟨b, o, none⟩ = some v) : ∀ w', Below W.heap.size W w' → w'.cell? ⟨b, o, none⟩ = some v :=
  fun _ hb => (hb.cell (World.block_lt_of_cell? W ⟨b, o, none⟩ c)).trans c

set_option maxRecDepth 10000 in
set_option maxHeartbeats 8000000 in
theorem back_in (a0 a1 : Option Addr) (len0 cap0 len1 cap1 : Nat) (N : Nat → Nat) (T : Nat → ByteArray) (W : World) (hl0 : len0 ≤ 100) (hl1 : len1 ≤ 100)
    (hn : ∀ i, i < len0 → ∃ b off, a0 = some ⟨b, off, none⟩ ∧ W.cell? ⟨b, off + i, none⟩ = some (.int .u64 (N i : Int)) ∧ N i < 18446744073709551616)
    (ht : ∀ i, i < len1 → ∃ b off, a1 = some ⟨b, off, none⟩ ∧ W.cell? ⟨b, off + i, none⟩ = some (.string (T i)) ∧ (T i).size ≤ maxLen) :
    Calls Try.prog 5 #[.slice a0 len0 cap0, .slice a1 len1 cap1] W fun e w' => e = .returned (.bool true) ∧ Below W.heap.size W w' := by
  have HN := hide hn
  have HT := hide ht
  clear hn ht
  go_enter Try.func5, Try.ntmps5
  go_wp2_with (go_at_call 10; refine (awake_any _).mono ?_; rintro x w0 ⟨rfl, hb0⟩)
  have HB0 := hide hb0
  clear hb0
  go_loopw [5, 6] (fun t j wr => ∃ (k : Nat) (S : ByteArray), k ≤ len0 ∧ j = .int .i64 k ∧ t = .string S ∧ bn S = front (numL N) k ∧ Below W.heap.size W wr) (fun _ j _ => len0 - (intOf j).toNat)
  case atStart => exact ⟨0, ⟨#[]⟩, Nat.zero_le _, rfl, rfl, rfl, unhide HB0⟩
  case round =>
    clear HB0
    obtain ⟨k, S, hk, rfl, rfl, hS, hbel⟩ := hrel
    have hSz : S.size ≤ 1800 := by
      have := front_num_le N k
      rw [← hS, bn_length] at this
      omega
    have HS := hide hS
    have HBel := hide hbel
    clear hS hbel
    by_cases hlt : k < len0
    · obtain ⟨b, off, rfl, c0, hNk⟩ := unhide HN k hlt
      have hfar := hide (held_of c0)
      have c0' := held_of c0 _ (unhide HBel)
      have hF := fun W => fixed_any (N k) W (by omega)
      have hG := fun W => short_any (N k) W (by omega)
      rw [Int.toNat_natCast] at hF hG
      have hFz : (strOf (Pk.fixL (N k))).size = 8 := by rw [strOf_size]; rfl
      have hGz : (strOf (Pk.shL (N k))).size ≤ 10 := by rw [strOf_size]; exact Pk.shL_le _
      have HE : Hid (bn (S ++ strOf (Pk.fixL (N k)) ++ strOf (Pk.shL (N k))) = front (numL N) (k + 1)) := by
        show _ = _
        rw [bn_append, bn_append, bn_strOf _ (Pk.fixL_lt _), bn_strOf _ (Pk.shL_lt _), unhide HS, front_succ, List.append_assoc]
        rfl
      have HF := hide hF
      have HG := hide hG
      clear hF hG c0
      generalize strOf (Pk.fixL (N k)) = F at *
      generalize strOf (Pk.shL (N k)) = G at *
      have r1 := add_run S F (by omega)
      have r2 := add_run (S ++ F) G (by rw [ByteArray.size_append]; omega)
      go_wp2_with fail
      go_region_held3 (fun w' => Below W.heap.size W w' ∧ w'.cell? ⟨b, off + k, none⟩ = some (.int .u64 (N k : Int)))
        (first | assumption | exact ⟨(unhide HBel).drew, c0'⟩ | exact held hfar hb1 | exact held hfar hb2)
        (first
          | (go_at_call 11; go_split_ands; refine (unhide HF _).mono ?_; rintro x w1 ⟨rfl, hb⟩; have hb1 := below_then (by assumption) hb; clear hb)
          | (go_at_call 13; go_split_ands; refine (unhide HG _).mono ?_; rintro x w2 ⟨rfl, hb⟩; have hb2 := below_then hb1 hb; clear hb))
      all_goals go_wp2
      go_roundw
      case rel => exact ⟨k + 1, _, by omega, by go_num, rfl, unhide HE, hb2⟩
      case measure => simp [intOf]; omega
    · have hk0 : k = len0 := by omega
      have HS0 : Hid (bn S = front (numL N) len0 ++ front (txtL T) 0) := by
        show _ = _
        rw [unhide HS, hk0, front_zero, List.append_nil]
      have HK := hide hk0
      clear HS hk0
      go_wp2_with fail
      go_loopw [5, 7] (fun t j w => ∃ (i : Nat) (S : ByteArray), i ≤ len1 ∧ j = .int .i64 i ∧ t = .string S ∧ bn S = front (numL N) len0 ++ front (txtL T) i ∧ S.size ≤ 1800 + i * 4106 ∧ (∀ q, q < i → (T q).size ≤ 4096) ∧ Below W.heap.size W w) (fun _ j _ => len1 - (intOf j).toNat)
      case atStart => exact ⟨0, S, Nat.zero_le _, rfl, rfl, unhide HS0, by omega, fun q hq => absurd hq (Nat.not_lt_zero _), unhide HBel⟩
      case round =>
        clear HBel HS0 hSz
        obtain ⟨i, S, hi, rfl, rfl, hS, hSz, hsm, hbel⟩ := hrel
        have HS := hide hS
        have HSM := hide hsm
        have HBel := hide hbel
        clear hS hsm hbel
        by_cases hlt1 : i < len1
        · obtain ⟨b, off, rfl, c0, hTz⟩ := unhide HT i hlt1
          have c0' := held_of c0 _ (unhide HBel)
          clear c0
          unfold maxLen at hTz
          by_cases hbig : 4096 < (T i).size
          · go_wp2_with fail
            go_ret
            exact ⟨rfl, unhide HBel⟩
          · have hG := fun W => text_any (T i) W (by omega)
            have hGz : (strOf (Pk.shL (T i).size) ++ T i).size ≤ 4106 := by
              have := Pk.shL_le (T i).size
              rw [ByteArray.size_append, strOf_size]
              omega
            have HE : Hid (bn (S ++ (strOf (Pk.shL (T i).size) ++ T i)) = front (numL N) len0 ++ front (txtL T) (i + 1)) := by
              show _ = _
              rw [bn_append, bn_append, bn_strOf _ (Pk.shL_lt _), unhide HS, front_succ, List.append_assoc]
              rfl
            have HG := hide hG
            clear hG
            generalize strOf (Pk.shL (T i).size) ++ T i = G at *
            have HZ : Hid ((S ++ G).size ≤ 1800 + (i + 1) * 4106) := by
              show _ ≤ _
              rw [ByteArray.size_append]
              omega
            go_wp2_with (go_at_call 15; refine (unhide HG _).mono ?_; rintro x w1 ⟨rfl, hb⟩; have hb1 := below_then (unhide HBel) hb; clear hb)
            go_roundw
            case rel =>
              exact ⟨i + 1, _, by omega, by go_num, rfl, unhide HE, unhide HZ, fun q hq => by
                rcases Nat.lt_succ_iff_lt_or_eq.1 hq with h | h
                · exact unhide HSM q h
                · subst h; omega, hb1⟩
            case measure => simp [intOf]; omega
        · have hi1 : i = len1 := by omega
          have HZ : Hid (bn (S ++ ⟨#[122]⟩) = rest (numL N) len0 0 ++ (front (txtL T) len1 ++ [122])) := by
            show _ = _
            rw [bn_append, unhide HS, hi1, front_rest, List.append_assoc]
            rfl
          have HSM1 : Hid (∀ q, q < len1 → (T q).size ≤ 4096) := fun q hq => unhide HSM q (by omega)
          have HW : Hid ((S ++ (⟨#[122]⟩ : ByteArray)).size ≤ 1000000) := by
            show _ ≤ _
            have e : (⟨#[122]⟩ : ByteArray).size = 1 := rfl
            rw [ByteArray.size_append, e]
            omega
          clear HS HSM hi1
          go_wp2_with (go_at_call 17; refine (read_new _ _).mono ?_; rintro x w3 ⟨r, rfl, hg1, hg2, hrd, hb⟩; have h1 : One W w3 r _ := ⟨below_then (unhide HBel) hb, hrd, Nat.le_trans (unhide HBel).size hg1, unhide HW⟩; clear hg1 hg2 hrd hb)
          have H1 := hide h1
          clear h1 HBel HW
          go_loopw [9] (fun j w => ∃ (q : Nat) (L : ByteArray), q ≤ len0 ∧ j = .int .i64 q ∧ bn L = rest (numL N) len0 q ++ (front (txtL T) len1 ++ [122]) ∧ One W w r L) (fun j _ => len0 - (intOf j).toNat)
          case atStart => exact ⟨0, _, Nat.zero_le _, rfl, unhide HZ, unhide H1⟩
          case round =>
            clear H1 HZ
            obtain ⟨q, L, hq, rfl, hL, h1⟩ := hrel
            have H1 := hide h1
            clear h1
            by_cases hltq : q < len0
            · obtain ⟨b, off, rfl, c0, hNk⟩ := unhide HN q hltq
              have hfar := hide (held_of c0)
              have c0' := held_of c0 _ (unhide H1).1
              rw [rest_step _ _ _ hltq] at hL
              unfold numL at hL
              rw [List.append_assoc, List.append_assoc] at hL
              obtain ⟨e1, b1⟩ := read_fixed L (N q) _ hL hNk
              obtain ⟨L2, e2, b2, z2⟩ := read_short _ (N q) _ b1 hNk
              have E1 := hide e1
              have E2 := hide e2
              have B2 : Hid (bn L2 = rest (numL N) len0 (q + 1) ++ (front (txtL T) len1 ++ [122])) := b2
              have z1 := size_le8 L
              have Z1 := hide z1
              have Z2 := hide z2
              have hbig := (unhide H1).2.2.2
              clear hL e1 e2 b1 b2 z1 z2 c0
              generalize L.extract 8 L.size = L1 at *
              go_wp2_with fail
              go_region_held3 (fun w' => Below W.heap.size W w' ∧ w'.cell? ⟨b, off + q, none⟩ = some (.int .u64 (N q : Int)))
                (first | assumption | exact ⟨(unhide H1).drew.1, c0'⟩ | exact held hfar h4.1 | exact held hfar h3.1)
                (first
                  | (go_at_call 20; refine (rfixed_any _ 0 L _ (unhide H1).drew.2.1 hbig).mono ?_; rw [unhide E1]; rintro x w5 ⟨rfl, ht⟩; have h3 := (unhide H1).drew.step ht (unhide Z1); clear ht)
                  | (go_at_call 22; refine (rshort_any _ 0 L1 _ h3.2.1 h3.2.2.2).mono ?_; rw [unhide E2]; rintro x w6 ⟨rfl, ht⟩; have h4 := h3.step ht (unhide Z2); clear ht))
              all_goals go_wp2
              go_roundw
              case rel => exact ⟨q + 1, L2, by omega, by go_num, unhide B2, h4⟩
              case measure => simp [intOf]; omega
            · have hq0 : q = len0 := by omega
              have HL : Hid (bn L = rest (txtL T) len1 0 ++ [122]) := by
                show _ = _
                rw [hL, hq0, rest_end, List.nil_append, front_rest]
              clear hL hq0
              go_wp2_with fail
              go_loopw [10] (fun j w => ∃ (v : Nat) (L : ByteArray), v ≤ len1 ∧ j = .int .i64 v ∧ bn L = rest (txtL T) len1 v ++ [122] ∧ One W w r L) (fun j _ => len1 - (intOf j).toNat)
              case atStart => exact ⟨0, L, Nat.zero_le _, rfl, unhide HL, unhide H1⟩
              case round =>
                clear H1 HL
                obtain ⟨v, L, hv, rfl, hL, h1⟩ := hrel
                have H1 := hide h1
                clear h1
                by_cases hltv : v < len1
                · obtain ⟨b, off, rfl, c0, hTz⟩ := unhide HT v hltv
                  have hfar := hide (held_of c0)
                  have c0' := held_of c0 _ (unhide H1).1
                  have hsm := unhide HSM1 v hltv
                  rw [rest_step _ _ _ hltv] at hL
                  unfold txtL at hL
                  rw [List.append_assoc] at hL
                  obtain ⟨L1, e1, b1, z1⟩ := read_text L (T v) _ hL hsm
                  have E1 := hide e1
                  have B1 : Hid (bn L1 = rest (txtL T) len1 (v + 1) ++ [122]) := b1
                  have Z1 := hide z1
                  have hbig := (unhide H1).2.2.2
                  clear hL e1 b1 z1 c0 hTz
                  go_wp2_with fail
                  go_region_held3 (fun w' => Below W.heap.size W w' ∧ w'.cell? ⟨b, off + v, none⟩ = some (.string (T v)))
                    (first | assumption | exact ⟨(unhide H1).drew.1, c0'⟩ | exact held hfar h3.1)
                    (first
                      | (go_at_call 24; refine (rtext_any _ 0 L _ _ (unhide H1).drew.2.1 hbig (by omega)).mono ?_; rw [unhide E1]; rintro x w5 ⟨rfl, ht⟩; have h3 := (unhide H1).drew.step ht (unhide Z1); clear ht))
                  all_goals go_wp2
                  go_roundw
                  case rel => exact ⟨v + 1, L1, by omega, by go_num, unhide B1, h3⟩
                  case measure => simp [intOf]; omega
                · have hv1 : v = len1 := by omega
                  rw [hv1, rest_end, List.nil_append] at hL
                  obtain ⟨el, L1, e1, en, z1⟩ := read_last L hL
                  have EL := hide el
                  have E1 := hide e1
                  have EN := hide en
                  have hbig := (unhide H1).2.2.2
                  clear hL el e1 en hv1
                  go_wp2_with (first
                    | (go_at_call 26; refine (left_any _ 0 L _ (unhide H1).2.1).mono ?_; rw [unhide EL]; rintro x w5 ⟨hx, hw⟩; have hx' : x = .returned (.int .i64 1) := hx; subst hx'; clear hx; have hw := hw.symm; subst hw)
                    | (go_at_call 18; refine (byte_any _ 0 L _ (unhide H1).2.1 hbig).mono ?_; rw [unhide E1]; rintro x w6 ⟨hx, ht⟩; have hx' : x = .returned (.int .u8 122) := hx; subst hx'; clear hx)
                    | (go_at_call 29; refine (end_any _ 0 L1 _ ht.2 z1).mono ?_; rw [unhide EN]; rintro x w7 ⟨hx, rfl⟩; have hx' : x = .returned (.int .i64 0) := hx; subst hx'; clear hx))
                  go_ret
                  exact ⟨rfl, below_told (unhide H1).1 (unhide H1).1.size ht (unhide H1).2.2.1⟩

theorem back_walk (a0 : Option Addr) (len0 cap0 : Nat) (a1 : Option Addr) (len1 cap1 : Nat) (W : World) (h0 : IsNums W a0 len0) (h1 : IsTexts W a1 len1) :
    Calls Try.prog 5 #[.slice a0 len0 cap0, .slice a1 len1 cap1] W fun e w' => e = .returned (.bool true) ∧ Below W.heap.size W w' := by
  by_cases h : 100 < len0 ∨ 100 < len1
  · exact back_out a0 a1 len0 cap0 len1 cap1 W h0.1 h1.1 h
  · have n0 : ∃ N : Nat → Nat, ∀ i, i < len0 → ∃ b off, a0 = some ⟨b, off, none⟩ ∧ W.cell? ⟨b, off + i, none⟩ = some (.int .u64 (N i : Int)) ∧ N i < 18446744073709551616 := by
      rcases h0.2 with e | ⟨b, off, e, N, hN⟩
      · exact ⟨fun _ => 0, fun i hi => by omega⟩
      · exact ⟨N, fun i hi => ⟨b, off, e, (hN i hi).1, (hN i hi).2⟩⟩
    have n1 : ∃ T : Nat → ByteArray, ∀ i, i < len1 → ∃ b off, a1 = some ⟨b, off, none⟩ ∧ W.cell? ⟨b, off + i, none⟩ = some (.string (T i)) ∧ (T i).size ≤ maxLen := by
      rcases h1.2 with e | ⟨b, off, e, T, hT⟩
      · exact ⟨fun _ => ⟨#[]⟩, fun i hi => by omega⟩
      · exact ⟨T, fun i hi => ⟨b, off, e, (hT i hi).1, (hT i hi).2⟩⟩
    obtain ⟨N, hN⟩ := n0
    obtain ⟨T, hT⟩ := n1
    exact back_in a0 a1 len0 cap0 len1 cap1 N T W (by omega) (by omega) hN hT
end Go.Proofs.Ytnjdkocpfcodfaa
