/- Free, Take. -/
import Derived.Test.YtkfpeffiphdhmaaAsk
namespace Go.Proofs.Ytkfpeffiphdhmaa
open Go.ChangeShapes Go.WideShapes Go.ChangeAt Go.RowKit Go.Maps

variable {w w' : World} {d b fr : Nat} {l : List St}

theorem AllocAt.moved (h : AllocAt w d b fr l) {l' : List St} (hm : Moves [b] w w') (hs : Sec w' b fr l') (hl : l'.length = l.length) (hok : Ok fr l') : AllocAt w' d b fr l' := by
  refine ⟨?_, hs, hok⟩
  rw [hl]
  exact (hm.block d h.dlt (by have := h.ne; simp; exact this)).trans h.blk

set_option maxHeartbeats 400000 in
theorem free_nil (gen : Int) (w : World) : Calls Try.prog 19 #[.pointer none, .int .i64 gen] w fun e w' => e = .returned (.int .i64 0) ∧ w' = w := by
  go_enter Try.func19, Try.ntmps19
  go_wp2
  go_ret
  exact ⟨rfl, rfl⟩
theorem mix_has (gen : Int) (l : List St) (fr : Nat) : mix gen (litLeft (Maps.has (mp fr l))) fr l = l := by
  refine mix_start gen _ l fr (fun i x hi => ?_)
  obtain ⟨h, g⟩ := x
  show Maps.has (mp fr l) (.int .i64 ((fr : Int) + (i : Int))) = true
  rw [mp_has, sec_mem.2 ⟨i, hi, rfl⟩]
  rfl
theorem mix_came {gen : Int} {left : Int → Bool} {i h : Nat} {g : Int} (hl : left ((fr : Int) + (i : Int)) = true) (hi : (mix gen left fr l)[i]? = some (some (h, g))) : l[i]? = some (some (h, g)) := by
  rw [mix_at] at hi
  cases hj : l[i]? with
  | none => rw [hj] at hi; cases hi
  | some s =>
    rw [hj] at hi
    simp [hl] at hi
    rw [hi]
theorem set_same {l : List St} {i : Nat} {s : St} (h : l[i]? = some s) : l.set i s = l := by
  apply List.ext_getElem?
  intro j
  rw [List.getElem?_set]
  split
  · rename_i e
    subst e
    rw [if_pos (List.getElem?_eq_some_iff.1 h).1, h]
  · rfl
theorem mp_del_at {i : Nat} (hi : i < l.length) (hc : Canon ((mp fr l).del (.int .i64 ((fr : Int) + (i : Int))))) : (mp fr l).del (.int .i64 ((fr : Int) + (i : Int))) = mp fr (l.set i none) := by
  have hin : In fr l ((fr : Int) + (i : Int)) := by unfold In; omega
  have e : ix fr ((fr : Int) + (i : Int)) = i := by unfold ix; omega
  rw [mp_del hin hc, upd_in none hin, e]
set_option maxHeartbeats 4000000 in
set_option maxRecDepth 20000 in
theorem free_any (gen : Int) (w : World) (h : AllocAt w d b fr l) :
    Calls Try.prog 19 #[.pointer (some ⟨d, 0, none⟩), .int .i64 gen] w fun e w' => e = .returned (.int .i64 (freeN l gen : Int)) ∧ AllocAt w' d b fr (freeM l gen) ∧ Moves [b] w w' := by
  have c2 := h.cell2
  have hm : w.ownsMap Try.prog 3 secR b 4096 (mp fr l) := h.map
  have hlen : l.length ≤ 4096 := by have := h.ok.few; omega
  have HA := hide h
  have HND : Hid (d ∉ [b]) := by have := h.ne; show d ∉ [b]; simp; exact this
  clear h
  go_enter Try.func19, Try.ntmps19
  go_wp2_with (first
    | (at_range; refine wpList_range_own _ rfl _ 47 rfl 3 56 law3 Try.underlying47 secR b 4096 _ rfl hm ?_; intro w0 hrg0 hg0 hs0)
    | go_in)
  go_frame
  go_loopw [5] (fun v wr => ∃ (left : Lit → Bool) (cnt : Nat), wr.ranges Try.prog 3 secR b w.heap.size 4096 (mp fr (mix gen (litLeft left) fr l)) left cnt ∧ v = .int .i64 (tally (dueS gen) (litLeft left) fr l : Int) ∧ Moves [b] w wr)
    (fun _ wr => wr.rangeLeft b w.heap.size)
  case atStart =>
    refine ⟨_, _, by rw [mix_has]; exact hrg0, by rw [tally_has (dueS gen) rfl]; rfl, ?_⟩
    exact Moves.of_grown hg0 (by simp)
  case round =>
    obtain ⟨left, cnt, hrg, rfl, hbel⟩ := hrel
    have htl := tally_le (dueS gen) (litLeft left) l fr
    have HBEL := hide hbel
    clear hbel hrg0 hg0 hs0
    go_wp2_with (first
      | (at_next; refine wpList_next_ranges _ rfl _ rfl 3 law3 secR (Value.int .i64) (fun hg : Nat × Int => Value.agg #[.int .i64 (hg.1 : Int), .int .i64 hg.2]) (fun key kl hk => by obtain ⟨x, e, _⟩ := key3_inv hk; exact ⟨x, e⟩) (fun v y hv => by obtain ⟨h, g, e, _⟩ := secR_inv hv; exact ⟨(h, g), e⟩) b w.heap.size 4096 _ _ _ rfl hrg ?_ ?_)
      | go_in)
    · -- nothing is left
      intro hc0 hl0
      have e : tally (dueS gen) (litLeft left) fr l = freeN l gen := tally_end (dueS gen) _ l fr (fun i => hl0 _)
      have e2 : mix gen (litLeft left) fr l = freeM l gen := mix_end gen _ l fr (fun i => hl0 _)
      rw [e]
      have HM := hide hrg.owns
      rw [e2] at HM
      clear e hl0 hrg e2
      go_wp2
      go_ret
      exact ⟨rfl, (unhide HA).moved (unhide HBEL) (unhide HM) (by unfold freeM; rw [List.length_map]) ((unhide HA).ok.free gen), unhide HBEL⟩
    · -- an entry has come
      intro x h g kl yd yp w1 cnt1 hkey hlx hv hat hrg1 hlt hg1 hs1 hen
      have ey : (yd, yp) = (datum h g, []) := by rw [secR_mk] at hv; exact (Option.some.inj hv).symm
      obtain ⟨i, hi0, ekl⟩ := left_at ey hat
      subst ekl
      have ex : x = (fr : Int) + (i : Int) := by
        obtain ⟨x', e1, e2⟩ := key3_inv hkey
        cases e1
        cases e2
        rfl
      subst ex
      have hi := mix_came (left := litLeft left) hlx hi0
      have hil := (List.getElem?_eq_some_iff.1 hi).1
      have hst := tally_step (dueS gen) (litLeft left) l fr i _ hi hlx
      rw [← litLeft_strike] at hst
      have hmx := mix_step gen (litLeft left) l fr i _ hi
      rw [← litLeft_strike] at hmx
      have hmv : Moves [b] w w1 := (unhide HBEL).trans (Moves.of_grown (fp := [w.heap.size]) hg1 (by simp)) (by simp)
      have hmv2 : Moves [b] w (w1.alloc (.cells #[.int .i64 (h : Int), .int .i64 g] 56)) := hmv.then (Moves.alloc _ _ _)
      have q2 := hmv2.cell c2 (unhide HND)
      have HMV := hide hmv2
      have hrg2 := hrg1.alloc (.cells #[.int .i64 (h : Int), .int .i64 g] 56)
      have HR := hide hrg2
      have HO := hide (And.intro hrg hlt)
      have HK := hide hkey
      have HIL := hide hil
      by_cases hdue : h = 0 ∧ g ≤ gen
      · obtain ⟨h0, hge⟩ := hdue
        subst h0
        have ed : dueS gen (some (0, g)) = true := by simp [dueS, hge]
        rw [ed, if_pos rfl] at hst
        have ef : freedS gen (some (0, g)) = none := by unfold freedS; rw [if_pos ed]
        rw [ef] at hmx
        have HMX := hide hmx
        have q2' : (w1.alloc (.cells #[.int .i64 0, .int .i64 g] 56)).cell? ⟨d, 2, none⟩ = some (.map (some b)) := q2
        clear hrg hrg1 hg1 hat hv hkey hlx ey hs1 hi hi0 hmv hmv2 hrg2 hmx ed ef q2 hil c2 hm
        go_wp2_with (first
          | (at_delete; refine wpList_delete_ranges _ rfl _ _ 47 3 rfl 56 law3 Try.underlying47 secR b w.heap.size 4096 _ _ _ rfl (unhide HR) _ _ rfl (unhide HK) ?_; intro w2 cnt2 hrg3 hle hturn; have HR3 := hide (And.intro hrg3 (And.intro hle hturn)); clear hrg3 hle hturn)
          | go_in)
        have r3 := (unhide HR3).1
        rw [Maps.strike_twice] at r3
        rw [mp_del_at (by rw [mix_length]; exact unhide HIL) (r3.owns.canon law3), ← unhide HMX] at r3
        have HR4 := hide r3
        clear r3
        go_roundw
        case rel =>
          exact ⟨_, cnt2, unhide HR4, by rw [hst]; go_num, (unhide HMV).then (Moves.of_grown (unhide HR3).2.2.grown (by simp))⟩
        case measure =>
          have e1 := (unhide HR4).left_eq
          have e2 := (unhide HO).1.left_eq
          have := (unhide HR3).2.1
          have := (unhide HO).2
          omega
      · have ed : dueS gen (some (h, g)) = false := by
          cases h with
          | zero => simp [dueS]; omega
          | succ k => rfl
        rw [ed] at hst
        have ef : freedS gen (some (h, g)) = some (h, g) := by unfold freedS; rw [ed]; rfl
        rw [ef, set_same hi0] at hmx
        rw [← hmx] at hrg2
        have HR4 := hide hrg2
        simp only [Bool.false_eq_true, if_false, Nat.add_zero] at hst
        clear hrg hrg1 hg1 hat hv hkey hlx ey hs1 hi hi0 hmv hmv2 hrg2 hmx ed ef q2 hil c2 hm HR
        by_cases h0 : h = 0
        · subst h0
          have hge : ¬ g ≤ gen := fun hh => hdue ⟨rfl, hh⟩
          clear hdue
          go_wp2
          go_roundw
          case rel => exact ⟨_, cnt1, unhide HR4, by rw [hst], unhide HMV⟩
          case measure => rw [(unhide HO).1.left_eq]; exact Nat.lt_of_le_of_lt (Nat.le_of_eq (unhide HR4).left_eq) (unhide HO).2
        · have h0' : ¬ (h : Int) = 0 := by omega
          clear hdue
          go_wp2
          go_roundw
          case rel => exact ⟨_, cnt1, unhide HR4, by rw [hst], unhide HMV⟩
          case measure => rw [(unhide HO).1.left_eq]; exact Nat.lt_of_le_of_lt (Nat.le_of_eq (unhide HR4).left_eq) (unhide HO).2
end Go.Proofs.Ytkfpeffiphdhmaa
