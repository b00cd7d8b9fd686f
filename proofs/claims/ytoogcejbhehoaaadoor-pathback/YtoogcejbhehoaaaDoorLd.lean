/- What the document's Split, Loose, Lead, Same do. -/
import Derived.Test.YtoogcejbhehoaaaDoorWk
namespace Go.Proofs.YtoogcejbhehoaaaDoor
open Go.ChangeShapes Go.WideShapes Go.ChangeAt Go.RowKit

set_option maxHeartbeats 1000000 in
theorem refSplit_any (p : ByteArray) (w : World) (hs : p.size ≤ 900000) :
    Calls Tryd.prog 10 #[.string p] w fun e w' => Names w w' e (walkR false (bs p)) := by
  have H := hide (walk_any p false w hs)
  go_enter Tryd.func10, Tryd.ntmps10
  go_wp2_with (go_at_call 28; refine (unhide H).mono ?_; rintro e w' ⟨⟨a, cap, rfl, hl⟩, hb⟩; have hl := hide hl; have hb := hide hb)
  go_ret2
  exact ⟨⟨a, cap, rfl, unhide hl⟩, unhide hb⟩
set_option maxHeartbeats 1000000 in
theorem refLoose_any (p : ByteArray) (w : World) (hs : p.size ≤ 900000) :
    Calls Tryd.prog 12 #[.string p] w fun e w' => Names w w' e (walkR true (bs p)) := by
  have H := hide (walk_any p true w hs)
  go_enter Tryd.func12, Tryd.ntmps12
  go_wp2_with (go_at_call 28; refine (unhide H).mono ?_; rintro e w' ⟨⟨a, cap, rfl, hl⟩, hb⟩; have hl := hide hl; have hb := hide hb)
  go_ret2
  exact ⟨⟨a, cap, rfl, unhide hl⟩, unhide hb⟩

theorem Names.of_none {w w' : World} {e : Ending} (h : Names w w' e none) : ∃ a cap, e = .returned (.tuple #[.slice a 0 cap, .int .i64 120]) ∧ Below w.heap.size w w' := by
  obtain ⟨⟨a, cap, he, _⟩, hb⟩ := h
  exact ⟨a, cap, he, hb⟩
theorem Names.of_some {w w' : World} {e : Ending} {l : List (List UInt8)} (h : Names w w' e (some l)) : ∃ a cap, e = .returned (.tuple #[.slice a l.length cap, .int .i64 0]) ∧ Ls w' a l ∧ Below w.heap.size w w' := by
  obtain ⟨⟨a, cap, he, hl⟩, hb⟩ := h
  exact ⟨a, cap, he, hl, hb⟩

/-- names, whether from the root, and the error -/
def Leads (w w' : World) (e : Ending) (r : Option (List (List UInt8) × Bool)) : Prop :=
  (∃ a cap, e = .returned (.tuple #[.slice a ((r.map (·.1)).getD []).length cap, .bool ((r.map (·.2)).getD false), .int .i64 (erO r)]) ∧ Ls w' a ((r.map (·.1)).getD [])) ∧ Below w.heap.size w w'
theorem Leads.no {w w' : World} (h : Below w.heap.size w w') : Leads w w' (.returned (.tuple #[.slice none 0 0, .bool false, .int .i64 120])) none := ⟨⟨none, 0, rfl, Ls.nil _ _⟩, h⟩
theorem Leads.yes {w w' : World} {a : Option Addr} {cap : Nat} {l : List (List UInt8)} {b : Bool} (h : Below w.heap.size w w') (hl : Ls w' a l) : Leads w w' (.returned (.tuple #[.slice a l.length cap, .bool b, .int .i64 0])) (some (l, b)) := ⟨⟨a, cap, rfl, hl⟩, h⟩

theorem lead_no {l : List UInt8} (h : targB l = false) : leadR l = none := by unfold leadR; rw [h]; rfl
theorem lead_root {l r : List UInt8} (h : targB l = true) (hl : l = 47 :: r) : leadR l = (walkR false l).map fun x => (x, true) := by unfold leadR; rw [if_pos h, if_pos (by rw [hl]; rfl)]
theorem lead_step {l : List UInt8} (h : targB l = true) (hl : l.head? ≠ some 47) : leadR l = (partsR stepB l).map fun x => (x, false) := by unfold leadR; rw [if_pos h, if_neg hl]
theorem targ_pos {s : ByteArray} (h : targB (bs s) = true) : 0 < s.size ∧ s.size ≤ 100 := by
  simp only [targB, Bool.and_eq_true, decide_eq_true_eq, bs_len] at h
  refine ⟨?_, h.1.2⟩
  rcases Nat.eq_zero_or_pos s.size with h0 | h0
  · have : bs s = [] := List.length_eq_zero_iff.1 (by rw [bs_len]; exact h0)
    rw [this] at h
    simp at h
  · exact h0

set_option maxHeartbeats 4000000 in
set_option maxRecDepth 10000 in
theorem refLead_any (s : ByteArray) (w : World) (hs : s.size ≤ 900000) :
    Calls Tryd.prog 14 #[.string s] w fun e w' => Leads w w' e (leadR (bs s)) := by
  have H1 := hide (refTarget_any s w (by omega))
  cases ht : targB (bs s) with
  | false =>
    rw [lead_no ht]
    rw [ht] at H1
    go_enter Tryd.func14, Tryd.ntmps14
    go_wp2_with (go_at_call 18; refine (unhide H1).mono ?_; rintro e w' ⟨rfl, rfl⟩)
    go_ret3
    exact Leads.no (Below.refl _ _)
  | true =>
    obtain ⟨hz, hz2⟩ := targ_pos ht
    rw [ht] at H1
    have hhd : (bs s).head? = some s[0] := by
      have := drop_at s 0 hz
      rw [List.drop_zero] at this
      rw [this]
      rfl
    have h0p : (0 : Int) < (s.size : Int) := by omega
    by_cases c : s[0].toNat = 47
    · have hc : s[0] = 47 := UInt8.toNat_inj.1 c
      have hr : bs s = 47 :: (bs s).drop 1 := by
        have := drop_at s 0 hz
        rw [List.drop_zero, hc] at this
        exact this
      have HR := hide (lead_root ht hr)
      rw [unhide HR]
      have H2 := hide (refSplit_any s w hs)
      clear hr hc hhd ht HR
      generalize walkR false (bs s) = R at *
      cases R with
      | none =>
        go_enter Tryd.func14, Tryd.ntmps14
        go_wp2_with (first
          | (go_at_call 18; refine (unhide H1).mono ?_; rintro e w' ⟨rfl, rfl⟩)
          | (go_at_call 10; refine (unhide H2).mono ?_; intro e w2 h2; obtain ⟨a, cap, rfl, hb⟩ := h2.of_none; clear h2; have hb := hide hb))
        go_ret3
        exact ⟨⟨a, cap, rfl, Ls.nil _ _⟩, unhide hb⟩
      | some l =>
        go_enter Tryd.func14, Tryd.ntmps14
        go_wp2_with (first
          | (go_at_call 18; refine (unhide H1).mono ?_; rintro e w' ⟨rfl, rfl⟩)
          | (go_at_call 10; refine (unhide H2).mono ?_; intro e w2 h2; obtain ⟨a, cap, rfl, hl, hb⟩ := h2.of_some; clear h2; have hl := hide hl; have hb := hide hb))
        go_ret3
        exact ⟨⟨a, cap, rfl, unhide hl⟩, unhide hb⟩
    · have t1 : ((s[0].toNat : Int) == 47) = false := beq_eq_false_iff_ne.2 (by omega)
      have t1' : ¬ (s[0].toNat : Int) = 47 := by omega
      have HR := hide (lead_step ht (by rw [hhd]; intro h; injection h with h; exact c (by rw [h]; rfl)))
      rw [unhide HR]
      clear hhd HR ht
      have HC := hide (cut_any s w hs)
      have hlen := cutW_len (bs s) []
      have hsz := cutW_size (bs s) []
      rw [bs_len] at hlen
      generalize hL : cutW [] (bs s) = L at HC hlen hsz
      have HL := hide hL
      have HZ := hide hsz
      have hlen' : L.length ≤ 900001 := by omega
      clear hL hlen hsz
      go_enter Tryd.func14, Tryd.ntmps14
      go_wp2_with (first
        | (go_at_call 18; refine (unhide H1).mono ?_; rintro e w' ⟨rfl, rfl⟩)
        | (go_at_call 33; refine (unhide HC).mono ?_; rintro e w1 ⟨a, cap, rfl, hown, hb⟩; have HB := hide hb; have hls := hide (hown.ls (by omega)); clear hown hb))
      go_loop [8] (fun j => ∃ i : Nat, i ≤ L.length ∧ j = .int .i64 i ∧ ∀ k, k < i → stepB k (L.getD k []) = true) (fun j => L.length - (intOf j).toNat)
      case atStart => exact ⟨0, Nat.zero_le _, rfl, fun k hk => by omega⟩
      case round =>
        obtain ⟨i, hi, rfl, hall⟩ := hrel
        have HA := hide hall
        clear hall
        by_cases hlt : i < L.length
        · have hlt' : (i : Int) < (L.length : Int) := by omega
          obtain ⟨_, hls0 | ⟨b, off, rfl, _, hc⟩⟩ := unhide hls
          · omega
          have hci := hc i hlt
          have hxs : (tx (L.getD i [])).size ≤ 1000000 := by
            rw [tx_size]
            have := unhide HZ (L.getD i []) (by rw [List.getD_eq_getElem?_getD, List.getElem?_eq_getElem hlt]; exact List.getElem_mem _)
            rw [List.length_nil, bs_len] at this
            omega
          have H2 := hide (refName_any (tx (L.getD i [])) w1 hxs)
          have HX := hide (fun h : stepB i (L.getD i []) = false => show partsR stepB (bs s) = none by
            rw [← unhide HL] at h hlt
            exact parts_no hlt h)
          have HY := hide (fun h : stepB i (L.getD i []) = true => show ∀ k, k < i + 1 → stepB k (L.getD k []) = true by
            intro k hk
            by_cases hki : k < i
            · exact unhide HA k hki
            · obtain rfl : k = i := by omega
              exact h)
          have hq : ((tx (L.getD i [])).toList == [46, 46]) = (L.getD i [] == [46, 46]) := by rw [toList_bs, bs_tx]
          rw [show stepB i (L.getD i []) = (nameB (L.getD i []) || L.getD i [] == [46, 46]) from rfl] at HX HY
          rw [bs_tx] at H2
          clear hc hxs
          generalize tx (L.getD i []) = X at *
          generalize (L.getD i [] == [46, 46]) = q at *
          generalize nameB (L.getD i []) = n at *
          cases n with
          | true =>
            have HY2 := hide (unhide HY (by simp))
            clear HX HY
            go_wp2_with (go_at_call 16; refine (unhide H2).mono ?_; rintro e w2 ⟨rfl, rfl⟩)
            go_round
            case rel => exact ⟨i + 1, by omega, by go_num, unhide HY2⟩
            case measure => simp [intOf]; omega
          | false =>
            cases q with
            | true =>
              have HY2 := hide (unhide HY (by simp))
              clear HX HY
              go_wp2_with (go_at_call 16; refine (unhide H2).mono ?_; rintro e w2 ⟨rfl, rfl⟩)
              go_round
              case rel => exact ⟨i + 1, by omega, by go_num, unhide HY2⟩
              case measure => simp [intOf]; omega
            | false =>
              have HX2 := hide (unhide HX (by simp))
              clear HX HY
              go_wp2_with (go_at_call 16; refine (unhide H2).mono ?_; rintro e w2 ⟨rfl, rfl⟩)
              go_ret3
              rw [unhide HX2]
              exact Leads.no (unhide HB)
        · have hlt' : ¬ (i : Int) < (L.length : Int) := by omega
          by_cases h32 : 32 < L.length
          · have h32' : (32 : Int) < (L.length : Int) := by omega
            have HW := hide (show partsR stepB (bs s) = none by rw [← unhide HL] at h32; exact parts_long h32)
            go_wp2
            go_ret3
            rw [unhide HW]
            exact Leads.no (unhide HB)
          · have h32' : ¬ (32 : Int) < (L.length : Int) := by omega
            have HW := hide (show partsR stepB (bs s) = some L by
              have hi' : i = L.length := by omega
              have hA := unhide HA
              have e := unhide HL
              subst e
              exact parts_yes (by omega) (fun k hk => hA k (by omega)))
            go_wp2
            go_ret3
            rw [unhide HW]
            exact Leads.yes (unhide HB) (unhide hls)

theorem below_drewN {B : Nat} {a w : World} (h : Below B a w) (n : Nat) : Below B a (w.drewN n) := ⟨h.os, h.tape, h.output, h.size, h.block⟩
/-- the same names -/
theorem tx_ne {x y : List UInt8} (h : x ≠ y) : ((tx x).toList == (tx y).toList) = false := by
  rw [toList_bs, toList_bs, bs_tx, bs_tx]
  exact beq_eq_false_iff_ne.2 h
set_option maxHeartbeats 4000000 in
set_option maxRecDepth 10000 in
theorem same_any (a a' : Option Addr) (c c' : Nat) (l l' : List (List UInt8)) (w : World) (hl : Ls w a l) (hl' : Ls w a' l') :
    Calls Tryd.prog 19 #[.slice a l.length c, .slice a' l'.length c'] w fun e w' => e = .returned (.bool (decide (l = l'))) ∧ Below w.heap.size w w' := by
  have h1 := hl.1
  have h2 := hl'.1
  by_cases hn : l.length = l'.length
  case neg =>
    have hne : decide (l = l') = false := decide_eq_false (fun h => hn (by rw [h]))
    have g : ((l.length : Int) == (l'.length : Int)) = false := beq_eq_false_iff_ne.2 (by omega)
    have g' : ¬ (l.length : Int) = (l'.length : Int) := by omega
    rw [hne]
    clear hne
    go_enter Tryd.func19, Tryd.ntmps19
    go_wp2
    go_ret
    exact ⟨rfl, Below.refl _ _⟩
  have HL := hide hl
  have HL' := hide hl'
  clear hl hl'
  rw [← hn]
  have HN := hide hn
  clear hn h2
  go_enter Tryd.func19, Tryd.ntmps19
  go_wp2
  go_loopw [5] (fun j wr => ∃ i : Nat, i ≤ l.length ∧ j = .int .i64 i ∧ (∀ k, k < i → l.getD k [] = l'.getD k []) ∧ Below w.heap.size w wr) (fun j _ => l.length - (intOf j).toNat)
  case atStart => exact ⟨0, Nat.zero_le _, rfl, fun k hk => by omega, Below.refl _ _⟩
  case round =>
    obtain ⟨i, hi, rfl, hall, hbel⟩ := hrel
    have HBel := hide hbel
    have HA := hide hall
    clear hall
    by_cases hlt : i < l.length
    · have hlt' : (i : Int) < (l.length : Int) := by omega
      obtain ⟨_, hls0 | ⟨b, off, rfl, hb1, hc⟩⟩ := unhide HL
      · omega
      obtain ⟨_, hls0 | ⟨b', off', rfl, hb2, hc'⟩⟩ := unhide HL'
      · have := unhide HN; omega
      have hci : wr.cell? ⟨b, off + i, none⟩ = some (.string (tx (l.getD i []))) := (hbel.cell hb1).trans (hc i hlt)
      have hci' : wr.cell? ⟨b', off' + i, none⟩ = some (.string (tx (l'.getD i []))) := (hbel.cell hb2).trans (hc' i (by have := unhide HN; omega))
      clear hc hc' hbel hb1 hb2
      by_cases he : l.getD i [] = l'.getD i []
      · rw [← he] at hci'
        have HR := hide (show ∀ k, k < i + 1 → l.getD k [] = l'.getD k [] by
          intro k hk
          by_cases hki : k < i
          · exact unhide HA k hki
          · obtain rfl : k = i := by omega
            exact he)
        have hss : ((tx (l.getD i [])).toList == (tx (l.getD i [])).toList) = true := by simp
        clear he
        generalize tx (l.getD i []) = X at *
        go_wp2_with fail
        go_quiet (fail)
        go_wp2
        go_roundw
        case rel => exact ⟨i + 1, by omega, by go_num, unhide HR, below_drewN (unhide HBel) _⟩
        case measure => simp [intOf]; omega
      · have hss := tx_ne he
        have hne : decide (l = l') = false := decide_eq_false (fun h => he (by rw [h]))
        have HNE := hide hne
        clear hne he
        generalize tx (l.getD i []) = X at *
        generalize tx (l'.getD i []) = X' at *
        go_wp2_with fail
        go_quiet (fail)
        go_wp2
        go_ret
        exact ⟨by rw [unhide HNE]; rfl, below_drewN (unhide HBel) _⟩
    · have hlt' : ¬ (i : Int) < (l.length : Int) := by omega
      have hne : decide (l = l') = true := decide_eq_true (by
        apply List.ext_getElem (unhide HN)
        intro k h1 h2
        have := unhide HA k (by omega)
        simpa [h1, h2] using this)
      have HNE := hide hne
      clear hne
      go_wp2
      go_ret
      exact ⟨by rw [unhide HNE]; rfl, unhide HBel⟩
end Go.Proofs.YtoogcejbhehoaaaDoor
