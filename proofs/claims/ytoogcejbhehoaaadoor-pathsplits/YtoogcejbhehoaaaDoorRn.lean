/- What the document's Name and both Targets do; a name where it stands. -/
import Derived.Test.YtoogcejbhehoaaaDoorNa
namespace Go.Proofs.YtoogcejbhehoaaaDoor
open Go.ChangeShapes Go.WideShapes Go.ChangeAt Go.RowKit

theorem bs_at (s : ByteArray) (i : Nat) (h : i < s.size) : (bs s).getD i 0 = s[i] := by
  have hl : i < (bs s).length := by rw [bs_len]; exact h
  rw [List.getD_eq_getElem?_getD, List.getElem?_eq_getElem hl]
  rfl
theorem seven (n : Nat) (k : Nat) (h : ¬ n = k) : ((n : Int) == (k : Int)) = false := beq_eq_false_iff_ne.2 (by omega)

set_option maxHeartbeats 1000000 in
set_option maxRecDepth 10000 in
theorem refName_any (s : ByteArray) (w : World) (hs : s.size ≤ 1000000) :
    Calls Tryd.prog 16 #[.string s] w fun e w' => e = .returned (.bool (nameB (bs s))) ∧ w' = w := by
  by_cases h0 : s = ⟨#[]⟩
  · subst h0
    go_enter Tryd.func16, Tryd.ntmps16
    go_wp2
    go_ret
    exact ⟨rfl, rfl⟩
  by_cases h1 : 255 < s.size
  · have hn : nameB (bs s) = false := by
      have : decide ((bs s).length ≤ 255) = false := by rw [bs_len]; simp; omega
      unfold nameB
      rw [this]
      simp
    have g1 : (255 : Int) < (s.size : Int) := by omega
    have k1 := full_of (s := s) (fun e => h0 (bs_inj (e.trans (bs_tx []).symm)))
    rw [hn]
    go_enter Tryd.func16, Tryd.ntmps16
    go_wp2
    go_ret
    exact ⟨rfl, rfl⟩
  by_cases h2 : s = ⟨#[46]⟩
  · subst h2
    go_enter Tryd.func16, Tryd.ntmps16
    go_wp2
    go_ret
    exact ⟨rfl, rfl⟩
  by_cases h3 : s = ⟨#[46, 46]⟩
  · subst h3
    go_enter Tryd.func16, Tryd.ntmps16
    go_wp2
    go_ret
    exact ⟨rfl, rfl⟩
  rw [name_tests h0 h1 h2 h3]
  have k1 := full_of (s := s) (fun e => h0 (bs_inj (e.trans (bs_tx []).symm)))
  have k2 := ne_lit h2
  have k3 := ne_lit h3
  have g1 : ¬ (255 : Int) < (s.size : Int) := by omega
  clear h0 h2 h3
  go_enter Tryd.func16, Tryd.ntmps16
  go_wp2
  go_loop [3] (fun j => ∃ i : Nat, i ≤ s.size ∧ j = .int .i64 i ∧ ∀ k, k < i → okB ((bs s).getD k 0) = true) (fun j => s.size - (intOf j).toNat)
  case atStart => exact ⟨0, Nat.zero_le _, rfl, fun k hk => by omega⟩
  case round =>
    obtain ⟨i, hi, rfl, hall⟩ := hrel
    have HA := hide hall
    clear hall
    by_cases hlt : i < s.size
    · have hlt' : (i : Int) < (s.size : Int) := by omega
      have hx : okB s[i] = false → (bs s).all okB = false := by
        intro h
        have hno : ¬ (bs s).all okB = true := by
          rw [all_iff]
          intro hh
          have := hh i (by rw [bs_len]; exact hlt)
          rw [bs_at s i hlt, h] at this
          cases this
        simpa using hno
      by_cases c1 : s[i].toNat = 47
      · have HX := hide (hx (by cases h : okB s[i] with | false => rfl | true => exact absurd c1 ((okB_iff _).1 h).1))
        clear hx
        go_wp2
        go_ret
        exact ⟨by show Ending.returned (Value.bool false) = _; rw [unhide HX], rfl⟩
      by_cases c2 : s[i].toNat = 0
      · have HX := hide (hx (by cases h : okB s[i] with | false => rfl | true => exact absurd c2 ((okB_iff _).1 h).2))
        clear hx
        go_wp2
        go_ret
        exact ⟨by show Ending.returned (Value.bool false) = _; rw [unhide HX], rfl⟩
      have HR := hide (show ∀ k, k < i + 1 → okB ((bs s).getD k 0) = true by
        intro k hk
        by_cases hki : k < i
        · exact unhide HA k hki
        · obtain rfl : k = i := by omega
          rw [bs_at s k hlt]
          exact (okB_iff _).2 ⟨c1, c2⟩)
      have t1 : ((s[i].toNat : Int) == 47) = false := beq_eq_false_iff_ne.2 (by omega)
      have t2 : ((s[i].toNat : Int) == 0) = false := beq_eq_false_iff_ne.2 (by omega)
      clear hx
      go_wp2
      go_round
      case rel => exact ⟨i + 1, by omega, by go_num, unhide HR⟩
      case measure => simp [intOf]; omega
    · have hlt' : ¬ (i : Int) < (s.size : Int) := by omega
      go_wp2
      go_ret
      refine ⟨?_, rfl⟩
      have : (bs s).all okB = true := (all_iff _ _).2 fun j hj => unhide HA j (by rw [bs_len] at hj; omega)
      show Ending.returned (Value.bool true) = _
      rw [this]

/-- a target, by its tests -/
theorem targ_eq (s : ByteArray) : targB (bs s) = (!(bs s == []) && decide (s.size ≤ 100) && !((bs s).any fun x => x == 0)) := by
  unfold targB
  rw [bs_len, List.not_any_eq_all_not]

set_option maxHeartbeats 1000000 in
set_option maxRecDepth 10000 in
theorem target_any (s : ByteArray) (w : World) (hs : s.size ≤ 1000000) :
    Calls Tryd.prog 17 #[.string s] w fun e w' => e = .returned (.bool (targB (bs s))) ∧ w' = w := by
  by_cases h0 : s = ⟨#[]⟩
  · subst h0
    go_enter Tryd.func17, Tryd.ntmps17
    go_wp2
    go_ret
    exact ⟨rfl, rfl⟩
  have hb0 : (bs s == []) = false := beq_eq_false_iff_ne.2 fun e => h0 (bs_inj (e.trans (bs_tx []).symm))
  have k1 := full_of (s := s) (fun e => h0 (bs_inj (e.trans (bs_tx []).symm)))
  rw [targ_eq, hb0]
  clear h0 hb0
  by_cases h1 : s.size ≤ 100
  · have g1 : (s.size : Int) ≤ 100 := by omega
    simp only [h1]
    have HC := hide (contains_any s w)
    generalize ((bs s).any fun x => x == 0) = b at HC ⊢
    go_enter Tryd.func17, Tryd.ntmps17
    go_wp2_with (go_at_call 34; refine (unhide HC).mono ?_; rintro e w' ⟨rfl, rfl⟩)
    go_ret
    exact ⟨by cases b <;> rfl, rfl⟩
  · have g1 : ¬ (s.size : Int) ≤ 100 := by omega
    simp only [h1]
    go_enter Tryd.func17, Tryd.ntmps17
    go_wp2
    go_ret
    exact ⟨by simp, rfl⟩

set_option maxHeartbeats 1000000 in
set_option maxRecDepth 10000 in
theorem refTarget_any (s : ByteArray) (w : World) (hs : s.size ≤ 1000000) :
    Calls Tryd.prog 18 #[.string s] w fun e w' => e = .returned (.bool (targB (bs s))) ∧ w' = w := by
  go_enter Tryd.func18, Tryd.ntmps18
  go_wp2
  go_loop [3] (fun j => ∃ i : Nat, i ≤ s.size ∧ j = .int .i64 i ∧ ∀ k, k < i → (!((bs s).getD k 0 == 0)) = true) (fun j => s.size - (intOf j).toNat)
  case atStart => exact ⟨0, Nat.zero_le _, rfl, fun k hk => by omega⟩
  case round =>
    obtain ⟨i, hi, rfl, hall⟩ := hrel
    have HA := hide hall
    clear hall
    by_cases hlt : i < s.size
    · have hlt' : (i : Int) < (s.size : Int) := by omega
      by_cases c2 : s[i].toNat = 0
      · have HX := hide (show targB (bs s) = false by
          cases h : targB (bs s) with
          | false => rfl
          | true =>
            simp only [targB, Bool.and_eq_true] at h
            have := (all_iff _ _).1 h.2 i (by rw [bs_len]; exact hlt)
            rw [bs_at s i hlt, show s[i] = 0 from UInt8.toNat_inj.1 c2] at this
            simp at this)
        go_wp2
        go_ret
        exact ⟨by show Ending.returned (Value.bool false) = _; rw [unhide HX], rfl⟩
      have HR := hide (show ∀ k, k < i + 1 → (!((bs s).getD k 0 == 0)) = true by
        intro k hk
        by_cases hki : k < i
        · exact unhide HA k hki
        · obtain rfl : k = i := by omega
          rw [bs_at s k hlt]
          have : s[k] ≠ 0 := fun h => c2 (by rw [h]; rfl)
          simp [this])
      have t2 : ((s[i].toNat : Int) == 0) = false := beq_eq_false_iff_ne.2 (by omega)
      go_wp2
      go_round
      case rel => exact ⟨i + 1, by omega, by go_num, unhide HR⟩
      case measure => simp [intOf]; omega
    · have hlt' : ¬ (i : Int) < (s.size : Int) := by omega
      have HX := hide (show targB (bs s) = (decide (1 ≤ s.size) && decide (s.size ≤ 100)) by
        have h1 : ((bs s).all fun c => !(c == 0)) = true := (all_iff _ _).2 fun j hj => unhide HA j (by rw [bs_len] at hj; omega)
        have h2 : (!(bs s == [])) = decide (1 ≤ s.size) := by
          by_cases h0 : bs s = []
          · have : s.size = 0 := by rw [← bs_len, h0]; rfl
            rw [h0, this]
            rfl
          · have h3 : s.size ≠ 0 := fun h => h0 (List.length_eq_zero_iff.1 (by rw [bs_len]; exact h))
            have h4 : (bs s == []) = false := beq_eq_false_iff_ne.2 h0
            rw [h4]
            have : 1 ≤ s.size := by omega
            simp [this]
        unfold targB
        rw [h1, h2, bs_len]
        simp)
      by_cases g0 : 1 ≤ s.size
      · have g0' : (1 : Int) ≤ (s.size : Int) := by omega
        by_cases g1 : s.size ≤ 100
        · have g1' : (s.size : Int) ≤ 100 := by omega
          go_wp2
          go_ret
          refine ⟨?_, rfl⟩
          rw [unhide HX]
          simp [g0, g1]
        · have g1' : ¬ (s.size : Int) ≤ 100 := by omega
          go_wp2
          go_ret
          refine ⟨?_, rfl⟩
          rw [unhide HX]
          simp [g0, g1]
      · have g0' : ¬ (1 : Int) ≤ (s.size : Int) := by omega
        go_wp2
        go_ret
        refine ⟨?_, rfl⟩
        rw [unhide HX]
        simp [g0]

set_option maxHeartbeats 1000000 in
theorem place_any (n : Nat) (s : ByteArray) (w : World) (hs : s.size ≤ 1000000) :
    Calls Tryd.prog 27 #[.int .i64 n, .string s] w fun e w' => e = .returned (.bool (fitB false n (bs s))) ∧ Below w.heap.size w w' := by
  rw [fit_false]
  go_enter Tryd.func27, Tryd.ntmps27
  go_wp2_with (go_at_call 15; refine (name_any s _ hs).mono ?_; rintro e w' ⟨rfl, hb⟩)
  go_ret
  exact ⟨rfl, hb⟩
set_option maxHeartbeats 1000000 in
theorem step_any (n : Nat) (s : ByteArray) (w : World) (hs : s.size ≤ 1000000) :
    Calls Tryd.prog 32 #[.int .i64 n, .string s] w fun e w' => e = .returned (.bool (stepB n (bs s))) ∧ Below w.heap.size w w' := by
  have HN := hide (name_any s w hs)
  unfold stepB
  have hd : (bs s == [46, 46]) = (s.toList == [46, 46]) := by rw [toList_bs]
  rw [hd]
  clear hd
  cases hnm : nameB (bs s) with
  | true =>
    rw [hnm] at HN
    go_enter Tryd.func32, Tryd.ntmps32
    go_wp2_with (go_at_call 15; refine (unhide HN).mono ?_; rintro e w' ⟨rfl, hb⟩)
    go_ret
    exact ⟨rfl, hb⟩
  | false =>
    rw [hnm] at HN
    go_enter Tryd.func32, Tryd.ntmps32
    go_wp2_with (go_at_call 15; refine (unhide HN).mono ?_; rintro e w' ⟨rfl, hb⟩)
    go_ret
    exact ⟨rfl, hb⟩
end Go.Proofs.YtoogcejbhehoaaaDoor
