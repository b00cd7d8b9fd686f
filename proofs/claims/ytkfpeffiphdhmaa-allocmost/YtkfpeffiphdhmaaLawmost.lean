/- The law AllocMost. -/
import Derived.Test.YtkfpeffiphdhmaaTake
namespace Go.Proofs.Ytkfpeffiphdhmaa
open Go.ChangeShapes Go.WideShapes Go.ChangeAt Go.RowKit Go.Maps

/-- the one sector, with so many holders; born in 1, dropped in 2 -/
def mostS : Nat → St
  | 0 => some (0, 2)
  | c + 1 => some (c + 1, 1)
def stM (c : Nat) : List St := [mostS c, none, none]
theorem most_sec (c : Nat) : sec 0 (stM c) 0 = mostS c := rfl
theorem most_upd (c : Nat) (s : St) : upd 0 (stM c) 0 s = [s, none, none] := rfl
theorem most_cnt (c : Nat) : cntS (mostS c) = c := by cases c <;> rfl
theorem most_holdE (c : Nat) : holdE 0 (stM (c + 1)) 0 = if c + 1 = 5000 then 52 else 0 := by
  unfold holdE
  rw [most_sec, most_cnt, if_neg (by omega)]
theorem most_holdM (c : Nat) (h : c + 1 ≠ 5000) : holdM 0 (stM (c + 1)) 0 = stM (c + 2) := by
  unfold holdM
  rw [most_sec, most_cnt, if_neg h, most_upd]
  rfl
theorem most_holdM' (c : Nat) (h : c + 1 = 5000) : holdM 0 (stM (c + 1)) 0 = stM (c + 1) := by
  unfold holdM
  rw [most_sec, most_cnt, if_pos h]
theorem most_dropE (c : Nat) : dropE 0 (stM c) 0 = if c = 0 then 51 else 0 := by
  unfold dropE
  rw [most_sec, most_cnt]
theorem most_dropM (c : Nat) : dropM 0 (stM c) 0 2 = stM (c - 1) := by
  unfold dropM
  rw [most_sec, most_upd]
  match c with
  | 0 => rfl
  | 1 => rfl
  | c + 2 => rfl
theorem most_waiting (c : Nat) : waiting (stM c) = if c = 0 then 1 else 0 := by
  cases c <;> rfl

theorem most_hold {W w : World} {d b c : Nat} (h : Stp W w d b 0 (stM (c + 1))) :
    Calls Try.prog 15 #[.pointer (some ⟨d, 0, none⟩), .int .i64 0] w fun e w' => ∃ c', e = .returned (.int .i64 (if c + 1 = 5000 then 52 else 0)) ∧ c' + 1 = (if c + 1 = 5000 then c + 1 else c + 2) ∧ Stp W w' d b 0 (stM (c' + 1)) := by
  refine (hold_any 0 w h.al (by unfold I64; omega)).mono ?_
  rintro e w' ⟨rfl, hA, hm⟩
  rw [most_holdE]
  by_cases h5 : c + 1 = 5000
  · rw [most_holdM' c h5] at hA
    exact ⟨c, rfl, by rw [if_pos h5], h.turn hA hm⟩
  · rw [most_holdM c h5] at hA
    exact ⟨c + 1, rfl, by rw [if_neg h5], h.turn hA hm⟩
theorem most_drop {W w : World} {d b c : Nat} (h : Stp W w d b 0 (stM c)) :
    Calls Try.prog 17 #[.pointer (some ⟨d, 0, none⟩), .int .i64 0, .int .i64 2] w fun e w' => e = .returned (.int .i64 (if c = 0 then 51 else 0)) ∧ Stp W w' d b 0 (stM (c - 1)) := by
  refine (drop_any 0 2 w h.al (by unfold I64; omega) (by unfold I64; omega)).mono ?_
  rintro e w' ⟨rfl, hA, hm⟩
  rw [most_dropE]
  rw [most_dropM] at hA
  exact ⟨rfl, h.turn hA hm⟩

set_option maxHeartbeats 8000000 in
set_option maxRecDepth 20000 in
theorem most_walk (n more : Int) (W : World) :
    Calls Try.prog 6 #[.int .i64 n, .int .i64 more] W fun e w' => e = .returned (.bool true) ∧ Below W.heap.size W w' := by
  have HN := hide (new_ok 0 3 W (by decide) (by decide))
  go_enter Try.func6, Try.ntmps6
  go_wp2_with fail
  refine (unhide HN).mono ?_
  rintro e w1 ⟨d, b, rfl, hA, hb, _, hnb⟩
  have HS : Hid (Stp W w1 d b 0 (newM 0 3)) := ⟨hA, hb, hnb⟩
  clear hA hb hnb HN
  go_wp2_with fail
  refine (awake_any w1).mono ?_
  rintro e w2 ⟨rfl, hb2⟩
  have HS2 := hide ((unhide HS).grow hb2)
  clear hb2 HS
  go_wp2_with fail
  refine (take_any 1 (by unfold I64; omega) w2 (unhide HS2).al).mono ?_
  rintro e w3 ⟨rfl, hA3, hm3⟩
  have e1 : takeN 0 (newM 0 3) = 0 := by decide
  have e2 : takeE (newM 0 3) = 0 := by decide
  have e3 : takeM (newM 0 3) 1 = stM 1 := by decide
  rw [e3] at hA3
  rw [e1, e2]
  have HS3 := hide ((unhide HS2).turn hA3 hm3)
  clear hA3 hm3 HS2 e1 e2 e3
  have out : ∀ w4, Stp W w4 d b 0 (stM 1) → Below W.heap.size W w4 := fun w4 h => h.bel
  by_cases g1 : n < 0
  · go_wp2
    go_ret
    exact ⟨rfl, (unhide HS3).bel⟩
  by_cases g2 : 5200 < n
  · go_wp2
    go_ret
    exact ⟨rfl, (unhide HS3).bel⟩
  by_cases g3 : more < 0
  · go_wp2
    go_ret
    exact ⟨rfl, (unhide HS3).bel⟩
  by_cases g4 : 5200 < more
  · go_wp2
    go_ret
    exact ⟨rfl, (unhide HS3).bel⟩
  clear out
  obtain ⟨N, rfl⟩ : ∃ N : Nat, n = (N : Int) := ⟨n.toNat, by omega⟩
  obtain ⟨M, rfl⟩ : ∃ M : Nat, more = (M : Int) := ⟨more.toNat, by omega⟩
  have hN : N ≤ 5200 := by omega
  have hM : M ≤ 5200 := by omega
  go_wp2_with fail
  go_loopw [9, 10] (fun v9 v10 wr => ∃ i c : Nat, i ≤ N ∧ v10 = .int .i64 (i : Int) ∧ v9 = .int .i64 ((c + 1 : Nat) : Int) ∧ c + 1 ≤ 5000 ∧ Stp W wr d b 0 (stM (c + 1))) (fun _ v10 _ => N - (intOf v10).toNat)
  case atStart => exact ⟨0, 0, Nat.zero_le _, rfl, rfl, by omega, unhide HS3⟩
  case round =>
    obtain ⟨i, c, hi, rfl, rfl, hc, hS⟩ := hrel
    clear HS3
    have HH := hide (most_hold hS)
    have HS := hide hS
    clear hS
    by_cases hlt : i < N
    · have hlt' : (i : Int) < (N : Int) := by omega
      by_cases h5 : c + 1 = 5000
      · rw [if_pos h5, if_pos h5] at HH
        have HH2 : Hid (Calls Try.prog 15 #[.pointer (some ⟨d, 0, none⟩), .int .i64 0] wr fun e w' => e = .returned (.int .i64 52) ∧ Stp W w' d b 0 (stM (c + 1))) := by
          refine (unhide HH).mono ?_
          rintro e w' ⟨c', rfl, e1, h⟩
          have : c' = c := by omega
          subst this
          exact ⟨rfl, h⟩
        have h5' : ((c + 1 : Nat) : Int) = 5000 := by omega
        rw [h5']
        clear HH
        go_wp2_with (go_at_call 15; refine (unhide HH2).mono ?_; rintro e w' ⟨rfl, hS'⟩; have HS' := hide hS'; clear hS')
        go_roundw
        case rel => exact ⟨i + 1, c, by omega, by go_num, by rw [h5'], by omega, unhide HS'⟩
        case measure => simp [intOf]; omega
      · rw [if_neg h5, if_neg h5] at HH
        have HH2 : Hid (Calls Try.prog 15 #[.pointer (some ⟨d, 0, none⟩), .int .i64 0] wr fun e w' => e = .returned (.int .i64 0) ∧ Stp W w' d b 0 (stM (c + 2))) := by
          refine (unhide HH).mono ?_
          rintro e w' ⟨c', rfl, e1, h⟩
          have : c' = c + 1 := by omega
          subst this
          exact ⟨rfl, h⟩
        obtain ⟨x, hx⟩ : ∃ x : Int, x = ((c + 1 : Nat) : Int) := ⟨_, rfl⟩
        rw [← hx]
        have h5' : x < 5000 := by omega
        have hw : IntKind.i64.wrap (x + 1) = x + 1 := by rw [IntKind.wrap_i64]; omega
        have HX := hide hx
        clear HH hx
        go_wp2_with (go_at_call 15; refine (unhide HH2).mono ?_; rintro e w' ⟨rfl, hS'⟩; have HS' := hide hS'; clear hS')
        go_roundw
        case rel => exact ⟨i + 1, c + 1, by omega, by go_num, by rw [unhide HX]; rfl, by omega, unhide HS'⟩
        case measure => simp [intOf]; omega
    · have hlt' : ¬ (i : Int) < (N : Int) := by omega
      clear HH
      go_wp2_with fail
      go_loopw [9, 12] (fun v9 v12 wr => ∃ j c : Nat, j ≤ M ∧ v12 = .int .i64 (j : Int) ∧ v9 = .int .i64 (c : Int) ∧ c ≤ 5000 ∧ Stp W wr d b 0 (stM c)) (fun _ v12 _ => M - (intOf v12).toNat)
      case atStart => exact ⟨0, c + 1, Nat.zero_le _, rfl, rfl, hc, unhide HS⟩
      case round =>
        clear HS
        obtain ⟨j, c2, hj, rfl, rfl, hc2, hS⟩ := hrel
        have HD := hide (most_drop hS)
        have HS := hide hS
        clear hS
        by_cases hlt2 : j < M
        · have hlt2' : (j : Int) < (M : Int) := by omega
          by_cases h0 : c2 = 0
          · subst h0
            have HD2 : Hid (Calls Try.prog 17 #[.pointer (some ⟨d, 0, none⟩), .int .i64 0, .int .i64 2] wr fun e w' => e = .returned (.int .i64 51) ∧ Stp W w' d b 0 (stM 0)) := unhide HD
            clear HD
            go_wp2_with (go_at_call 17; refine (unhide HD2).mono ?_; rintro e w' ⟨rfl, hS'⟩; have HS' := hide hS'; clear hS')
            go_roundw
            case rel => exact ⟨j + 1, 0, by omega, by go_num, by simp, by omega, unhide HS'⟩
            case measure => simp [intOf]; omega
          · rw [if_neg h0] at HD
            obtain ⟨x, hx⟩ : ∃ x : Int, x = (c2 : Int) := ⟨_, rfl⟩
            rw [← hx]
            have hp : 0 < x := by omega
            have hw : IntKind.i64.wrap (x - 1) = x - 1 := by rw [IntKind.wrap_i64]; omega
            have HX := hide hx
            clear hx
            go_wp2_with (go_at_call 17; refine (unhide HD).mono ?_; rintro e w' ⟨rfl, hS'⟩; have HS' := hide hS'; clear hS')
            go_roundw
            case rel => exact ⟨j + 1, c2 - 1, by omega, by go_num, by have := unhide HX; congr 1; omega, by omega, unhide HS'⟩
            case measure => simp [intOf]; omega
        · have hlt2' : ¬ (j : Int) < (M : Int) := by omega
          clear HD
          have HC : Hid (Calls Try.prog 21 #[.pointer (some ⟨d, 0, none⟩), .int .i64 0] wr fun e w' => e = .returned (.int .i64 (c2 : Int)) ∧ w' = wr) := count_is (by unfold I64; omega) wr (unhide HS).al (by rw [most_sec, most_cnt])
          go_wp2_with fail
          refine (unhide HC).mono ?_
          rintro e w' ⟨rfl, hw'⟩
          subst hw'
          go_wp2_with fail
          refine (waiting_any _ (unhide HS).al).mono ?_
          rintro e w5 ⟨rfl, hb5⟩
          rw [most_waiting]
          have HB5 := hide (((unhide HS).grow hb5).bel)
          clear hb5
          by_cases h0 : c2 = 0
          · subst h0
            rw [if_pos rfl]
            go_wp2
            go_ret
            exact ⟨rfl, unhide HB5⟩
          · rw [if_neg h0]
            have h0' : ¬ (c2 : Int) = 0 := by omega
            go_wp2
            go_ret
            refine ⟨?_, unhide HB5⟩
            have e0 : ((c2 : Int) == 0) = false := beq_false_of_ne (by omega)
            show Ending.returned (Value.bool (!((c2 : Int) == 0))) = _
            rw [e0]
            rfl
end Go.Proofs.Ytkfpeffiphdhmaa
