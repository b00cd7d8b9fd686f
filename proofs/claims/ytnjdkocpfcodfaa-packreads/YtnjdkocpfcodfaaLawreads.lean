/- The walk of the law PackReads. -/
import Derived.Test.YtnjdkocpfcodfaaTwo
import Derived.Test.YtnjdkocpfcodfaaArgs
import Derived.Deep.RegionHeld3
namespace Go.Proofs.Ytnjdkocpfcodfaa
open Go.ChangeShapes Go.WideShapes Go.ChangeAt Go.RowKit

set_option maxRecDepth 10000 in
set_option maxHeartbeats 1000000 in
theorem reads_out (s : ByteArray) (a : Option Addr) (len cap : Nat) (W : World) (hs : s.size ≤ maxLen) (hl : len ≤ maxLen) (h : 65536 < s.size ∨ 200 < len) :
    Calls Try.prog 4 #[.string s, .slice a len cap] W fun e w' => e = .returned (.bool true) ∧ Below W.heap.size W w' := by
  unfold maxLen at hs hl
  by_cases h1 : 65536 < s.size
  · clear h
    go_enter Try.func4, Try.ntmps4
    go_wp2_with (go_at_call 10; refine (awake_any _).mono ?_; rintro x w0 ⟨rfl, hb0⟩)
    go_ret
    exact ⟨rfl, hb0⟩
  · have h2 : 200 < len := by omega
    clear h
    go_enter Try.func4, Try.ntmps4
    go_wp2_with (go_at_call 10; refine (awake_any _).mono ?_; rintro x w0 ⟨rfl, hb0⟩)
    go_ret
    exact ⟨rfl, hb0⟩

theorem far {W w : World} {b o : Nat} {n : Int} (h : Hid (∀ w', Below W.heap.size W w' → w'.cell? ⟨b, o, none⟩ = some (.int .i64 n))) (hb : Below W.heap.size W w) : Below W.heap.size W w ∧ w.cell? ⟨b, o, none⟩ = some (.int .i64 n) := ⟨hb, unhide h _ hb⟩
theorem Two.look {W w : World} {r m e : Nat} {L : ByteArray} (h : Two W w r m L e) : Two W w r m L e ∧ w.cell? ⟨m, 1, none⟩ = some (.int .i64 (e : Int)) := ⟨h, h.rm.cell1⟩

set_option maxRecDepth 10000 in
set_option maxHeartbeats 4000000 in
theorem reads_in (s : ByteArray) (b off len cap : Nat) (K M : Nat → Int) (W : World) (hs : s.size ≤ 65536) (hl : len ≤ 200)
    (hc : ∀ i, i < len → W.cell? ⟨b, off + i * 2, none⟩ = some (.int .i64 (K i)) ∧ W.cell? ⟨b, off + i * 2 + 1, none⟩ = some (.int .i64 (M i)) ∧ (-9223372036854775808 ≤ K i ∧ K i ≤ 9223372036854775807) ∧ (-9223372036854775808 ≤ M i ∧ M i ≤ 9223372036854775807)) :
    Calls Try.prog 4 #[.string s, .slice (some ⟨b, off, none⟩) len cap] W fun e w' => e = .returned (.bool true) ∧ Below W.heap.size W w' := by
  have HC := hide hc
  clear hc
  go_enter Try.func4, Try.ntmps4
  go_wp2_with (first
    | (go_at_call 10; refine (awake_any _).mono ?_; rintro x w0 ⟨rfl, hb0⟩)
    | (go_at_call 17; refine (read_new _ _).mono ?_; rintro x w1 ⟨r, rfl, hg1, hg2, hrd, hb1⟩; have hb2 := below_then hb0 hb1))
  have h2 := Two.new hb2 hb0.size hg1 hrd hs
  have H2 := hide h2
  clear h2 hb0 hb1 hb2 hg1 hg2 hrd
  generalize w1.heap.size = m at *
  go_loopw [7] (fun t wr => ∃ (k e : Nat) (L : ByteArray), k ≤ len ∧ t = .int .i64 k ∧ Two W wr r m L e) (fun t _ => len - (intOf t).toNat)
  case atStart => exact ⟨0, 0, s, Nat.zero_le _, rfl, unhide H2⟩
  case round =>
    clear H2
    obtain ⟨k, e, L, hk, rfl, h2⟩ := hrel
    by_cases hlt : k < len
    · obtain ⟨c0, c1, hK, hM⟩ := unhide HC k hlt
      have c0' : wr.cell? ⟨b, off + k * 2, none⟩ = some (.int .i64 (K k)) := (h2.1.cell (World.block_lt_of_cell? W ⟨b, off + k * 2, none⟩ c0)).trans c0
      have c1' : wr.cell? ⟨b, off + k * 2 + 1, none⟩ = some (.int .i64 (M k)) := (h2.1.cell (World.block_lt_of_cell? W ⟨b, off + k * 2 + 1, none⟩ c1)).trans c1
      have H2 := hide h2
      have hfar : ∀ w', Below W.heap.size W w' → w'.cell? ⟨b, off + k * 2 + 1, none⟩ = some (.int .i64 (M k)) := fun w' hb => (hb.cell (World.block_lt_of_cell? W ⟨b, off + k * 2 + 1, none⟩ c1)).trans c1
      have hfar := hide hfar
      clear c0 c1 h2
      by_cases k0 : K k = 0
      · rw [k0] at c0'
        clear k0 hK
        have hbig := (unhide H2).big
        go_wp2_with (first
          | (go_at_call 18; refine (byte_any _ e L _ (unhide H2).rd hbig).mono ?_; rintro x w2 ⟨rfl, ht⟩; have hh := (unhide H2).first ht; clear ht)
          | (go_at_call 19; refine (refByte_any _ e L _ hh.2.2.1 hbig).mono ?_; rintro x w3 ⟨rfl, ht⟩; have h2 := hh.second ht (byteR_le L e); clear ht hh))
        generalize (byteR L e).2.1 = L2 at *
        generalize (byteR L e).2.2 = e2 at *
        have hbig2 := h2.big
        have HL := hide h2
        clear h2
        go_region_held3 (fun w' => Two W w' r m L2 e2 ∧ w'.cell? ⟨m, 1, none⟩ = some (.int .i64 (e2 : Int)))
          (first | assumption | exact (unhide HL).drew.look)
          (first
            | (go_at_call 26; go_split_ands; refine (left_any _ e2 L2 _ ?_).mono ?_; (exact Two.rd (by assumption)); rintro x w5 ⟨rfl, rfl⟩)
            | (go_at_call 27; go_split_ands; refine (refLeft_any _ e2 L2 _ ?_).mono ?_; (exact Two.rm (by assumption)); rintro x w5 ⟨rfl, rfl⟩)
            | (go_at_call 28; go_split_ands; refine (err_any _ e2 L2 _ ?_).mono ?_; (exact Two.rd (by assumption)); rintro x w5 ⟨rfl, rfl⟩)
            | (go_at_call 29; go_split_ands; refine (end_any _ e2 L2 _ ?_ hbig2).mono ?_; (exact Two.rd (by assumption)); rintro x w5 ⟨rfl, rfl⟩)
            | (go_at_call 30; go_split_ands; refine (refEnd_any _ e2 L2 _ ?_).mono ?_; (exact Two.rm (by assumption)); rintro x w5 ⟨rfl, rfl⟩))
        go_wp2
        go_roundw
        case rel => exact ⟨k + 1, e2, L2, by omega, by go_num, (unhide HL).drew⟩
        case measure => simp [intOf]; omega
      · by_cases k1 : K k = 1
        · rw [k1] at c0'
          clear k1 hK
          have hbig := (unhide H2).big
          go_wp2_with (first
            | (go_at_call 20; refine (rfixed_any _ e L _ (unhide H2).rd hbig).mono ?_; rintro x w2 ⟨rfl, ht⟩; have hh := (unhide H2).first ht; clear ht)
            | (go_at_call 21; refine (refFixedR_any _ e L _ hh.2.2.1 hbig).mono ?_; rintro x w3 ⟨rfl, ht⟩; have h2 := hh.second ht (fixedR_le L e); clear ht hh))
          generalize (fixedR L e).2.1 = L2 at *
          generalize (fixedR L e).2.2 = e2 at *
          have hbig2 := h2.big
          have HL := hide h2
          clear h2
          go_region_held3 (fun w' => Two W w' r m L2 e2 ∧ w'.cell? ⟨m, 1, none⟩ = some (.int .i64 (e2 : Int)))
            (first | assumption | exact (unhide HL).drew.look)
            (first
              | (go_at_call 26; go_split_ands; refine (left_any _ e2 L2 _ ?_).mono ?_; (exact Two.rd (by assumption)); rintro x w5 ⟨rfl, rfl⟩)
              | (go_at_call 27; go_split_ands; refine (refLeft_any _ e2 L2 _ ?_).mono ?_; (exact Two.rm (by assumption)); rintro x w5 ⟨rfl, rfl⟩)
              | (go_at_call 28; go_split_ands; refine (err_any _ e2 L2 _ ?_).mono ?_; (exact Two.rd (by assumption)); rintro x w5 ⟨rfl, rfl⟩)
              | (go_at_call 29; go_split_ands; refine (end_any _ e2 L2 _ ?_ hbig2).mono ?_; (exact Two.rd (by assumption)); rintro x w5 ⟨rfl, rfl⟩)
              | (go_at_call 30; go_split_ands; refine (refEnd_any _ e2 L2 _ ?_).mono ?_; (exact Two.rm (by assumption)); rintro x w5 ⟨rfl, rfl⟩))
          go_wp2
          go_roundw
          case rel => exact ⟨k + 1, e2, L2, by omega, by go_num, (unhide HL).drew⟩
          case measure => simp [intOf]; omega
        · by_cases k2 : K k = 2
          · rw [k2] at c0'
            clear k2 hK
            have hbig := (unhide H2).big
            go_wp2_with (first
              | (go_at_call 22; refine (rshort_any _ e L _ (unhide H2).rd hbig).mono ?_; rintro x w2 ⟨rfl, ht⟩; have hh := (unhide H2).first ht; clear ht)
              | (go_at_call 23; refine (refShortR_any _ e L _ hh.2.2.1 hbig).mono ?_; rintro x w3 ⟨rfl, ht⟩; have h2 := hh.second ht (shortR_le L e); clear ht hh))
            generalize (shortR L e).2.1 = L2 at *
            generalize (shortR L e).2.2 = e2 at *
            have hbig2 := h2.big
            have HL := hide h2
            clear h2
            go_region_held3 (fun w' => Two W w' r m L2 e2 ∧ w'.cell? ⟨m, 1, none⟩ = some (.int .i64 (e2 : Int)))
              (first | assumption | exact (unhide HL).drew.look)
              (first
                | (go_at_call 26; go_split_ands; refine (left_any _ e2 L2 _ ?_).mono ?_; (exact Two.rd (by assumption)); rintro x w5 ⟨rfl, rfl⟩)
                | (go_at_call 27; go_split_ands; refine (refLeft_any _ e2 L2 _ ?_).mono ?_; (exact Two.rm (by assumption)); rintro x w5 ⟨rfl, rfl⟩)
                | (go_at_call 28; go_split_ands; refine (err_any _ e2 L2 _ ?_).mono ?_; (exact Two.rd (by assumption)); rintro x w5 ⟨rfl, rfl⟩)
                | (go_at_call 29; go_split_ands; refine (end_any _ e2 L2 _ ?_ hbig2).mono ?_; (exact Two.rd (by assumption)); rintro x w5 ⟨rfl, rfl⟩)
                | (go_at_call 30; go_split_ands; refine (refEnd_any _ e2 L2 _ ?_).mono ?_; (exact Two.rm (by assumption)); rintro x w5 ⟨rfl, rfl⟩))
            go_wp2
            go_roundw
            case rel => exact ⟨k + 1, e2, L2, by omega, by go_num, (unhide HL).drew⟩
            case measure => simp [intOf]; omega
          · by_cases k3 : K k = 3
            · rw [k3] at c0'
              clear k3 hK
              have hbig := (unhide H2).big
              go_wp2_with fail
              go_region_held3 (fun w' => Below W.heap.size W w' ∧ w'.cell? ⟨b, off + k * 2 + 1, none⟩ = some (.int .i64 (M k)))
                (first | assumption | exact ⟨(unhide H2).drew.1, c1'⟩ | exact far hfar hh.1 | exact far hfar h2.1)
                (first
                  | (go_at_call 24; refine (rtext_any _ e L _ _ (unhide H2).drew.rd hbig hM).mono ?_; rintro x w2 ⟨rfl, ht⟩; have hh := (unhide H2).drew.first ht; clear ht)
                  | (go_at_call 25; refine (refTextR_any _ e L _ _ hh.2.2.1 hbig hM).mono ?_; rintro x w3 ⟨rfl, ht⟩; have h2 := hh.second ht (textR_le L e _); clear ht))
              go_wp2_with fail
              generalize (textR L e (M k)).2.1 = L2 at *
              generalize (textR L e (M k)).2.2 = e2 at *
              have hbig2 := h2.big
              have HL := hide h2
              clear h2
              go_region_held3 (fun w' => Two W w' r m L2 e2 ∧ w'.cell? ⟨m, 1, none⟩ = some (.int .i64 (e2 : Int)))
                (first | assumption | exact (unhide HL).drew.look)
                (first
                  | (go_at_call 26; go_split_ands; refine (left_any _ e2 L2 _ ?_).mono ?_; (exact Two.rd (by assumption)); rintro x w5 ⟨rfl, rfl⟩)
                  | (go_at_call 27; go_split_ands; refine (refLeft_any _ e2 L2 _ ?_).mono ?_; (exact Two.rm (by assumption)); rintro x w5 ⟨rfl, rfl⟩)
                  | (go_at_call 28; go_split_ands; refine (err_any _ e2 L2 _ ?_).mono ?_; (exact Two.rd (by assumption)); rintro x w5 ⟨rfl, rfl⟩)
                  | (go_at_call 29; go_split_ands; refine (end_any _ e2 L2 _ ?_ hbig2).mono ?_; (exact Two.rd (by assumption)); rintro x w5 ⟨rfl, rfl⟩)
                  | (go_at_call 30; go_split_ands; refine (refEnd_any _ e2 L2 _ ?_).mono ?_; (exact Two.rm (by assumption)); rintro x w5 ⟨rfl, rfl⟩))
              go_wp2
              go_roundw
              case rel => exact ⟨k + 1, e2, L2, by omega, by go_num, (unhide HL).drew⟩
              case measure => simp [intOf]; omega
            · have b0 : (K k == 0) = false := beq_eq_false_iff_ne.2 k0
              have b1 : (K k == 1) = false := beq_eq_false_iff_ne.2 k1
              have b2 : (K k == 2) = false := beq_eq_false_iff_ne.2 k2
              have b3 : (K k == 3) = false := beq_eq_false_iff_ne.2 k3
              clear k0 k1 k2 k3
              have h2 := unhide H2
              clear H2
              go_wp2_with fail
              generalize L = L2 at *
              generalize e = e2 at *
              have hbig2 := h2.big
              have HL := hide h2
              clear h2
              go_region_held3 (fun w' => Two W w' r m L2 e2 ∧ w'.cell? ⟨m, 1, none⟩ = some (.int .i64 (e2 : Int)))
                (first | assumption | exact (unhide HL).drew.look)
                (first
                  | (go_at_call 26; go_split_ands; refine (left_any _ e2 L2 _ ?_).mono ?_; (exact Two.rd (by assumption)); rintro x w5 ⟨rfl, rfl⟩)
                  | (go_at_call 27; go_split_ands; refine (refLeft_any _ e2 L2 _ ?_).mono ?_; (exact Two.rm (by assumption)); rintro x w5 ⟨rfl, rfl⟩)
                  | (go_at_call 28; go_split_ands; refine (err_any _ e2 L2 _ ?_).mono ?_; (exact Two.rd (by assumption)); rintro x w5 ⟨rfl, rfl⟩)
                  | (go_at_call 29; go_split_ands; refine (end_any _ e2 L2 _ ?_ hbig2).mono ?_; (exact Two.rd (by assumption)); rintro x w5 ⟨rfl, rfl⟩)
                  | (go_at_call 30; go_split_ands; refine (refEnd_any _ e2 L2 _ ?_).mono ?_; (exact Two.rm (by assumption)); rintro x w5 ⟨rfl, rfl⟩))
              go_wp2
              go_roundw
              case rel => exact ⟨k + 1, e2, L2, by omega, by go_num, (unhide HL).drew⟩
              case measure => simp [intOf]; omega
    · have hbig := h2.big
      have HL := hide h2
      clear h2
      go_wp2_with (first
        | (go_at_call 26; refine (left_any _ e L _ (unhide HL).rd).mono ?_; rintro x w5 ⟨rfl, hw⟩; have hw := hw.symm; subst hw)
        | (go_at_call 27; refine (refLeft_any _ e L _ (unhide HL).rm).mono ?_; rintro x w5 ⟨rfl, hw⟩; have hw := hw.symm; subst hw)
        | (go_at_call 29; refine (end_any _ e L _ (unhide HL).rd hbig).mono ?_; rintro x w5 ⟨rfl, hw⟩; have hw := hw.symm; subst hw)
        | (go_at_call 30; refine (refEnd_any _ e L _ (unhide HL).rm).mono ?_; rintro x w5 ⟨rfl, hw⟩; have hw := hw.symm; subst hw))
      go_ret
      exact ⟨rfl, (unhide HL).1⟩

set_option maxRecDepth 10000 in
set_option maxHeartbeats 1000000 in
theorem reads_none (s : ByteArray) (a : Option Addr) (cap : Nat) (W : World) (hs : s.size ≤ 65536) :
    Calls Try.prog 4 #[.string s, .slice a 0 cap] W fun e w' => e = .returned (.bool true) ∧ Below W.heap.size W w' := by
  go_enter Try.func4, Try.ntmps4
  go_wp2_with (first
    | (go_at_call 10; refine (awake_any _).mono ?_; rintro x w0 ⟨rfl, hb0⟩)
    | (go_at_call 17; refine (read_new _ _).mono ?_; rintro x w1 ⟨r, rfl, hg1, hg2, hrd, hb1⟩; have hb2 := below_then hb0 hb1))
  have h2 := Two.new hb2 hb0.size hg1 hrd hs
  have H2 := hide h2
  clear h2 hb0 hb1 hb2 hg1 hg2 hrd
  generalize w1.heap.size = m at *
  go_loopw [7] (fun t wr => t = .int .i64 0 ∧ Two W wr r m s 0) (fun _ _ => 0)
  case atStart => exact ⟨rfl, unhide H2⟩
  case round =>
    clear H2
    obtain ⟨rfl, h2⟩ := hrel
    have hbig := h2.big
    have HL := hide h2
    clear h2
    go_wp2_with (first
      | (go_at_call 26; refine (left_any _ 0 s _ (unhide HL).rd).mono ?_; rintro x w5 ⟨rfl, hw⟩; have hw := hw.symm; subst hw)
      | (go_at_call 27; refine (refLeft_any _ 0 s _ (unhide HL).rm).mono ?_; rintro x w5 ⟨rfl, hw⟩; have hw := hw.symm; subst hw)
      | (go_at_call 29; refine (end_any _ 0 s _ (unhide HL).rd hbig).mono ?_; rintro x w5 ⟨rfl, hw⟩; have hw := hw.symm; subst hw)
      | (go_at_call 30; refine (refEnd_any _ 0 s _ (unhide HL).rm).mono ?_; rintro x w5 ⟨rfl, hw⟩; have hw := hw.symm; subst hw))
    go_ret
    exact ⟨rfl, (unhide HL).1⟩

theorem reads_walk (s : ByteArray) (a : Option Addr) (len cap : Nat) (W : World) (hs : s.size ≤ maxLen) (h : IsOps W a len) :
    Calls Try.prog 4 #[.string s, .slice a len cap] W fun e w' => e = .returned (.bool true) ∧ Below W.heap.size W w' := by
  by_cases hl : 65536 < s.size ∨ 200 < len
  · exact reads_out s a len cap W hs h.1 hl
  · rcases h.2 with h0 | ⟨b, off, rfl, K, M, hc⟩
    · subst h0
      exact reads_none s a cap W (by omega)
    · exact reads_in s b off len cap K M W (by omega) (by omega) hc
end Go.Proofs.Ytnjdkocpfcodfaa
