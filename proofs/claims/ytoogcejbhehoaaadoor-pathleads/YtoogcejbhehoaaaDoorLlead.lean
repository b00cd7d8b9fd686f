/- The walk of the law PathLeads. -/
import Derived.Test.YtoogcejbhehoaaaDoorAw
namespace Go.Proofs.YtoogcejbhehoaaaDoor
open Go.ChangeShapes Go.WideShapes Go.ChangeAt Go.RowKit

theorem Leads.of_none {w w' : World} {e : Ending} (h : Leads w w' e none) : ∃ a cap, e = .returned (.tuple #[.slice a 0 cap, .bool false, .int .i64 120]) ∧ Below w.heap.size w w' := by
  obtain ⟨⟨a, cap, he, _⟩, hb⟩ := h
  exact ⟨a, cap, he, hb⟩
theorem Leads.of_some {w w' : World} {e : Ending} {l : List (List UInt8)} {b : Bool} (h : Leads w w' e (some (l, b))) : ∃ a cap, e = .returned (.tuple #[.slice a l.length cap, .bool b, .int .i64 0]) ∧ Ls w' a l ∧ Below w.heap.size w w' := by
  obtain ⟨⟨a, cap, he, hl⟩, hb⟩ := h
  exact ⟨a, cap, he, hl, hb⟩

set_option maxHeartbeats 4000000 in
set_option maxRecDepth 10000 in
theorem leads_walk (s : ByteArray) (w : World) (hT : Tb w) : Calls Tryd.prog 7 #[.string s] w fun e w' => e = .returned (.bool true) ∧ Below w.heap.size w w' := by
  have HA := hide (fun W (hW : Tb W) => awake_any W hW)
  have HT := hide hT
  clear hT
  by_cases hs : 4096 < s.size
  · have g : (4096 : Int) < (s.size : Int) := by omega
    go_enter Tryd.func7, Tryd.ntmps7
    go_wp2_with (go_at_call 8; refine (unhide HA _ (unhide HT)).mono ?_; rintro e w1 ⟨rfl, hb⟩)
    go_ret
    exact ⟨rfl, hb⟩
  have g : ¬ (4096 : Int) < (s.size : Int) := by omega
  have hs9 : s.size ≤ 900000 := by omega
  have HB0 := hide (Below.refl w.heap.size w)
  cases hR : walkR false (bs s) with
  | none =>
    have H9 := hide (fun W => (split_any s W hs9).mono fun e w' h => (hR ▸ h : Names W w' e none).of_none)
    have HX := hide (fun (_ : s.size ≤ 100) (ms : List (List UInt8)) (h : walkR false (bs s) = some ms) => show False by rw [hR] at h; cases h)
    clear hR
    have H17 := hide (fun W => target_any s W (by omega))
    cases hQ : leadR (bs s) with
    | none =>
      have H13 := hide (fun W => (lead_any s W hs9).mono fun e w' h => (hQ ▸ h : Leads W w' e none).of_none)
      clear hs hs9 hQ HX H17
      go_enter Tryd.func7, Tryd.ntmps7
      go_wp2_with fail
      refine (unhide HA _ ((unhide HT).below (unhide HB0))).mono ?_
      rintro e w1 ⟨rfl, hb⟩
      have HB1 := hide (below_then (unhide HB0) hb)
      clear hb  HB0 
      go_wp2_with fail
      refine (unhide H9 _).mono ?_
      rintro e w2 ⟨a1, c1, rfl, hb⟩
      have HB2 := hide (below_then (unhide HB1) hb)
      clear hb  HB1 
      go_wp2_with fail
      refine (unhide H13 _).mono ?_
      rintro e w3 ⟨a5, c5, rfl, hb⟩
      have HB3 := hide (below_then (unhide HB2) hb)
      clear hb  HB2 
      go_wp2
      go_loopw [8] (fun j wr => j = .int .i64 0 ∧ Below w.heap.size w wr) (fun _ _ => 0)
      case atStart => exact ⟨rfl, unhide HB3⟩
      case round =>
        obtain ⟨rfl, hbel⟩ := hrel
        have HB := hide hbel
        clear hbel
        go_wp2
        go_ret
        exact ⟨rfl, unhide HB⟩
    | some q =>
      obtain ⟨ms, b⟩ := q
      obtain ⟨ht, hb1, hb2⟩ := lead_parts hQ
      have hb0 : b = false := by
        cases b with
        | false => rfl
        | true => exact absurd (hb1 rfl) (unhide HX (by have := (targ_pos ht).2; omega) ms)
      subst hb0
      obtain ⟨hne, hall⟩ := hb2 rfl
      rw [ht] at H17
      have H13 := hide (fun W => (lead_any s W hs9).mono fun e w' h => (hQ ▸ h : Leads W w' e (some (ms, false))).of_some)
      have hlen : 0 < ms.length := List.length_pos_iff.2 hne
      have hml : ∀ m ∈ ms, m.length ≤ 1000000 := by
        intro m hm
        rcases hall m hm with h | h
        · simp only [nameB, Bool.and_eq_true, decide_eq_true_eq] at h
          omega
        · rw [h]
          simp
      have hpos : (0 : Int) < (ms.length : Int) := by omega
      have HL := hide hall
      have HM := hide hml
      clear hs hs9 hQ HX ht hb1 hb2 hne hall hml hlen
      go_enter Tryd.func7, Tryd.ntmps7
      go_wp2_with fail
      refine (unhide HA _ ((unhide HT).below (unhide HB0))).mono ?_
      rintro e w1 ⟨rfl, hb⟩
      have HB1 := hide (below_then (unhide HB0) hb)
      clear hb  HB0 
      go_wp2_with fail
      refine (unhide H9 _).mono ?_
      rintro e w2 ⟨a1, c1, rfl, hb⟩
      have HB2 := hide (below_then (unhide HB1) hb)
      clear hb  HB1 
      go_wp2_with fail
      refine (unhide H13 _).mono ?_
      rintro e w3 ⟨a5, c5, rfl, hl, hb⟩
      have HB3 := hide (below_then (unhide HB2) hb)
      have X_3 := hide hl
      clear hb hl HB2 
      go_wp2
      go_loopw [8] (fun j wr => ∃ i : Nat, i ≤ ms.length ∧ j = .int .i64 i ∧ Below w3.heap.size w3 wr) (fun j _ => ms.length - (intOf j).toNat)
      case atStart => exact ⟨0, Nat.zero_le _, rfl, Below.refl _ _⟩
      case round =>
        obtain ⟨i, hi, rfl, hbel⟩ := hrel
        have HBel := hide hbel
        by_cases hlt : i < ms.length
        · have hlt' : (i : Int) < (ms.length : Int) := by omega
          obtain ⟨_, hls0 | ⟨b, off, rfl, hbw, hc⟩⟩ := unhide X_3
          · omega
          have hci : wr.cell? ⟨b, off + i, none⟩ = some (.string (tx (ms.getD i []))) := (hbel.cell hbw).trans (hc i hlt)
          have hmem : ms.getD i [] ∈ ms := by
            rw [List.getD_eq_getElem?_getD, List.getElem?_eq_getElem hlt]
            exact List.getElem_mem _
          have H15 := hide (fun W => name_any (tx (ms.getD i [])) W (by rw [tx_size]; exact unhide HM _ hmem))
          have hor := unhide HL _ hmem
          have hq : ((tx (ms.getD i [])).toList == [46, 46]) = (ms.getD i [] == [46, 46]) := by rw [toList_bs, bs_tx]
          rw [bs_tx] at H15
          have hdd : nameB (ms.getD i []) = false → (ms.getD i [] == [46, 46]) = true := by
            intro h
            rcases hor with h2 | h2
            · rw [h] at h2
              cases h2
            · rw [h2]
              rfl
          clear hc hbel hmem hor
          generalize tx (ms.getD i []) = Z at *
          generalize (ms.getD i [] == [46, 46]) = q at *
          generalize nameB (ms.getD i []) = n at *
          cases n with
          | true =>
            clear hdd hq
            go_wp2_with (go_at_call 15; refine (unhide H15 _).mono ?_; rintro e w9 ⟨rfl, hb9⟩; have HB9 := hide ((unhide HBel).trans (hb9.mono (unhide HBel).size)))
            go_roundw
            case rel => exact ⟨i + 1, by omega, by go_num, unhide HB9⟩
            case measure => simp [intOf]; omega
          | false =>
            have hq1 := hdd rfl
            rw [hq1] at hq
            have hc9 := hide (fun (W : World) (hW : Below wr.heap.size wr W) => show W.cell? ⟨b, off + i, none⟩ = some (.string Z) from (hW.cell (World.block_lt_of_cell? _ _ hci)).trans hci)
            clear hdd hq1
            go_wp2_with (go_at_call 15; refine (unhide H15 _).mono ?_; rintro e w9 ⟨rfl, hb9⟩; have hci9 := unhide hc9 w9 hb9; have HB9 := hide ((unhide HBel).trans (hb9.mono (unhide HBel).size)))
            go_roundw
            case rel => exact ⟨i + 1, by omega, by go_num, unhide HB9⟩
            case measure => simp [intOf]; omega
        · have hlt' : ¬ (i : Int) < (ms.length : Int) := by omega
          clear hbel
          go_wp2_with (go_at_call 17; refine (unhide H17 _).mono ?_; rintro e wr ⟨rfl, rfl⟩)
          go_ret
          exact ⟨rfl, (unhide HB3).trans ((unhide HBel).mono (unhide HB3).size)⟩
  | some ns =>
    by_cases h100 : s.size ≤ 100
    case pos =>
      have H9 := hide (fun W => (split_any s W hs9).mono fun e w' h => (hR ▸ h : Names W w' e (some ns)).of_some)
      have hQ := walk_targ hR (by rw [bs_len]; exact h100)
      have H13 := hide (fun W => (lead_any s W hs9).mono fun e w' h => (hQ ▸ h : Leads W w' e (some (ns, true))).of_some)
      have g1 : (s.size : Int) ≤ 100 := by omega
      clear hs hs9 hR hQ h100
      go_enter Tryd.func7, Tryd.ntmps7
      go_wp2_with fail
      refine (unhide HA _ ((unhide HT).below (unhide HB0))).mono ?_
      rintro e w1 ⟨rfl, hb⟩
      have HB1 := hide (below_then (unhide HB0) hb)
      clear hb  HB0 
      go_wp2_with fail
      refine (unhide H9 _).mono ?_
      rintro e w2 ⟨a1, c1, rfl, hl, hb⟩
      have HB2 := hide (below_then (unhide HB1) hb)
      have A_2 := hide hl
      clear hb hl HB1 
      go_wp2_with fail
      refine (unhide H13 _).mono ?_
      rintro e w3 ⟨a5, c5, rfl, hl, hb⟩
      have HB3 := hide (below_then (unhide HB2) hb)
      have A_3 := hide ((unhide A_2).below hb)
      have X_3 := hide hl
      clear hb hl HB2 A_2
      go_wp2_with fail
      refine (same_self _ _ _ _ ns _ (unhide A_3) (unhide X_3)).mono ?_
      rintro e w4 ⟨rfl, hb⟩
      have HB4 := hide (below_then (unhide HB3) hb)
      have A_4 := hide ((unhide A_3).below hb)
      have X_4 := hide ((unhide X_3).below hb)
      clear hb HB3 A_3 X_3
      go_wp2
      go_ret
      exact ⟨rfl, unhide HB4⟩
    have H9 := hide (fun W => (split_any s W hs9).mono fun e w' h => (hR ▸ h : Names W w' e (some ns)).of_some)
    have HX := hide (fun (h : s.size ≤ 100) (ms : List (List UInt8)) (_ : walkR false (bs s) = some ms) => h100 h)
    have g1 : ¬ (s.size : Int) ≤ 100 := by omega
    clear hR h100
    have H17 := hide (fun W => target_any s W (by omega))
    cases hQ : leadR (bs s) with
    | none =>
      have H13 := hide (fun W => (lead_any s W hs9).mono fun e w' h => (hQ ▸ h : Leads W w' e none).of_none)
      clear hs hs9 hQ HX H17
      go_enter Tryd.func7, Tryd.ntmps7
      go_wp2_with fail
      refine (unhide HA _ ((unhide HT).below (unhide HB0))).mono ?_
      rintro e w1 ⟨rfl, hb⟩
      have HB1 := hide (below_then (unhide HB0) hb)
      clear hb  HB0 
      go_wp2_with fail
      refine (unhide H9 _).mono ?_
      rintro e w2 ⟨a1, c1, rfl, hl, hb⟩
      have HB2 := hide (below_then (unhide HB1) hb)
      have A_2 := hide hl
      clear hb hl HB1 
      go_wp2_with fail
      refine (unhide H13 _).mono ?_
      rintro e w3 ⟨a5, c5, rfl, hb⟩
      have HB3 := hide (below_then (unhide HB2) hb)
      have A_3 := hide ((unhide A_2).below hb)
      clear hb  HB2 A_2
      go_wp2
      go_loopw [8] (fun j wr => j = .int .i64 0 ∧ Below w.heap.size w wr) (fun _ _ => 0)
      case atStart => exact ⟨rfl, unhide HB3⟩
      case round =>
        obtain ⟨rfl, hbel⟩ := hrel
        have HB := hide hbel
        clear hbel
        go_wp2
        go_ret
        exact ⟨rfl, unhide HB⟩
    | some q =>
      obtain ⟨ms, b⟩ := q
      obtain ⟨ht, hb1, hb2⟩ := lead_parts hQ
      have hb0 : b = false := by
        cases b with
        | false => rfl
        | true => exact absurd (hb1 rfl) (unhide HX (by have := (targ_pos ht).2; omega) ms)
      subst hb0
      obtain ⟨hne, hall⟩ := hb2 rfl
      rw [ht] at H17
      have H13 := hide (fun W => (lead_any s W hs9).mono fun e w' h => (hQ ▸ h : Leads W w' e (some (ms, false))).of_some)
      have hlen : 0 < ms.length := List.length_pos_iff.2 hne
      have hml : ∀ m ∈ ms, m.length ≤ 1000000 := by
        intro m hm
        rcases hall m hm with h | h
        · simp only [nameB, Bool.and_eq_true, decide_eq_true_eq] at h
          omega
        · rw [h]
          simp
      have hpos : (0 : Int) < (ms.length : Int) := by omega
      have HL := hide hall
      have HM := hide hml
      clear hs hs9 hQ HX ht hb1 hb2 hne hall hml hlen
      go_enter Tryd.func7, Tryd.ntmps7
      go_wp2_with fail
      refine (unhide HA _ ((unhide HT).below (unhide HB0))).mono ?_
      rintro e w1 ⟨rfl, hb⟩
      have HB1 := hide (below_then (unhide HB0) hb)
      clear hb  HB0 
      go_wp2_with fail
      refine (unhide H9 _).mono ?_
      rintro e w2 ⟨a1, c1, rfl, hl, hb⟩
      have HB2 := hide (below_then (unhide HB1) hb)
      have A_2 := hide hl
      clear hb hl HB1 
      go_wp2_with fail
      refine (unhide H13 _).mono ?_
      rintro e w3 ⟨a5, c5, rfl, hl, hb⟩
      have HB3 := hide (below_then (unhide HB2) hb)
      have A_3 := hide ((unhide A_2).below hb)
      have X_3 := hide hl
      clear hb hl HB2 A_2
      go_wp2
      go_loopw [8] (fun j wr => ∃ i : Nat, i ≤ ms.length ∧ j = .int .i64 i ∧ Below w3.heap.size w3 wr) (fun j _ => ms.length - (intOf j).toNat)
      case atStart => exact ⟨0, Nat.zero_le _, rfl, Below.refl _ _⟩
      case round =>
        obtain ⟨i, hi, rfl, hbel⟩ := hrel
        have HBel := hide hbel
        by_cases hlt : i < ms.length
        · have hlt' : (i : Int) < (ms.length : Int) := by omega
          obtain ⟨_, hls0 | ⟨b, off, rfl, hbw, hc⟩⟩ := unhide X_3
          · omega
          have hci : wr.cell? ⟨b, off + i, none⟩ = some (.string (tx (ms.getD i []))) := (hbel.cell hbw).trans (hc i hlt)
          have hmem : ms.getD i [] ∈ ms := by
            rw [List.getD_eq_getElem?_getD, List.getElem?_eq_getElem hlt]
            exact List.getElem_mem _
          have H15 := hide (fun W => name_any (tx (ms.getD i [])) W (by rw [tx_size]; exact unhide HM _ hmem))
          have hor := unhide HL _ hmem
          have hq : ((tx (ms.getD i [])).toList == [46, 46]) = (ms.getD i [] == [46, 46]) := by rw [toList_bs, bs_tx]
          rw [bs_tx] at H15
          have hdd : nameB (ms.getD i []) = false → (ms.getD i [] == [46, 46]) = true := by
            intro h
            rcases hor with h2 | h2
            · rw [h] at h2
              cases h2
            · rw [h2]
              rfl
          clear hc hbel hmem hor
          generalize tx (ms.getD i []) = Z at *
          generalize (ms.getD i [] == [46, 46]) = q at *
          generalize nameB (ms.getD i []) = n at *
          cases n with
          | true =>
            clear hdd hq
            go_wp2_with (go_at_call 15; refine (unhide H15 _).mono ?_; rintro e w9 ⟨rfl, hb9⟩; have HB9 := hide ((unhide HBel).trans (hb9.mono (unhide HBel).size)))
            go_roundw
            case rel => exact ⟨i + 1, by omega, by go_num, unhide HB9⟩
            case measure => simp [intOf]; omega
          | false =>
            have hq1 := hdd rfl
            rw [hq1] at hq
            have hc9 := hide (fun (W : World) (hW : Below wr.heap.size wr W) => show W.cell? ⟨b, off + i, none⟩ = some (.string Z) from (hW.cell (World.block_lt_of_cell? _ _ hci)).trans hci)
            clear hdd hq1
            go_wp2_with (go_at_call 15; refine (unhide H15 _).mono ?_; rintro e w9 ⟨rfl, hb9⟩; have hci9 := unhide hc9 w9 hb9; have HB9 := hide ((unhide HBel).trans (hb9.mono (unhide HBel).size)))
            go_roundw
            case rel => exact ⟨i + 1, by omega, by go_num, unhide HB9⟩
            case measure => simp [intOf]; omega
        · have hlt' : ¬ (i : Int) < (ms.length : Int) := by omega
          clear hbel
          go_wp2_with (go_at_call 17; refine (unhide H17 _).mono ?_; rintro e wr ⟨rfl, rfl⟩)
          go_ret
          exact ⟨rfl, (unhide HB3).trans ((unhide HBel).mono (unhide HB3).size)⟩
end Go.Proofs.YtoogcejbhehoaaaDoor
