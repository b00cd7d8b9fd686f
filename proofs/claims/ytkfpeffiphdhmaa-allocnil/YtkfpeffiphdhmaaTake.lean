/- Take; the statements' own guard; the statement on a nil allocator. -/
import Derived.Test.YtkfpeffiphdhmaaFree
namespace Go.Proofs.Ytkfpeffiphdhmaa
open Go.ChangeShapes Go.WideShapes Go.ChangeAt Go.RowKit Go.Maps

variable {w w' : World} {d b fr : Nat} {l : List St}

set_option maxHeartbeats 400000 in
theorem take_nil (gen : Int) (w : World) : Calls Try.prog 11 #[.pointer none, .int .i64 gen] w fun e w' => e = .returned (.tuple #[.int .i64 0, .int .i64 2]) ∧ w' = w := by
  go_enter Try.func11, Try.ntmps11
  go_wp2
  go_ret2
  exact ⟨rfl, rfl⟩
theorem in_of {k : Nat} (hk : k < l.length) : In fr l ((fr : Int) + (k : Int)) := by unfold In; omega
theorem upd_of {k : Nat} (hk : k < l.length) (s : St) : upd fr l ((fr : Int) + (k : Int)) s = l.set k s := by
  rw [upd_in s (in_of hk)]
  congr 1
  unfold ix
  omega
set_option maxHeartbeats 4000000 in
set_option maxRecDepth 20000 in
theorem take_any (gen : Int) (hgen : I64 gen) (w : World) (h : AllocAt w d b fr l) :
    Calls Try.prog 11 #[.pointer (some ⟨d, 0, none⟩), .int .i64 gen] w fun e w' => e = .returned (.tuple #[.int .i64 (takeN fr l), .int .i64 (takeE l)]) ∧ AllocAt w' d b fr (takeM l gen) ∧ Moves [b] w w' := by
  have c0 := h.cell0
  have c1 := h.cell1
  have hfew := h.ok.few
  have HA := hide h
  have HG := hide hgen
  clear h hgen
  go_enter Try.func11, Try.ntmps11
  go_wp2
  go_loopw [6] (fun v wr => ∃ k : Nat, k ≤ l.length ∧ v = .int .i64 ((fr : Int) + (k : Int)) ∧ Below w.heap.size w wr ∧ ∀ j, j < k → l[j]? ≠ some none) (fun v _ => fr + l.length - (intOf v).toNat)
  case atStart => exact ⟨0, Nat.zero_le _, by simp, Below.refl _ _, fun j hj => absurd hj (Nat.not_lt_zero _)⟩
  case round =>
    obtain ⟨k, hk, rfl, hb, hp⟩ := hrel
    have hA := (unhide HA).grow hb
    have d1 := hA.cell1
    have HA2 := hide hA
    have HB := hide hb
    have HP := hide hp
    clear c0 c1 hA hb hp
    by_cases hlt : k < l.length
    · have t1 : (fr : Int) + (k : Int) < (fr : Int) + (l.length : Int) := by omega
      cases hs : l[k]'hlt with
      | none =>
        have hat : l[k]? = some none := by rw [List.getElem?_eq_getElem hlt, hs]
        have htk := take_some hat (unhide HP)
        have en : takeN fr l = (fr : Int) + (k : Int) := by unfold takeN; rw [htk]
        have ee : takeE l = 0 := by unfold takeE; rw [htk]
        have em : takeM l gen = l.set k (some (1, gen)) := by unfold takeM; rw [htk]
        have HE := hide (And.intro en (And.intro ee em))
        have hsec : sec fr l ((fr : Int) + (k : Int)) = none := by rw [sec_of hlt, hs]
        have HM := hide (mark_ok _ gen wr (unhide HA2) (in_of hlt) (by unfold I64; omega) (unhide HG) hsec)
        rw [upd_of hlt] at HM
        clear hat htk en ee em hsec
        generalize (fr : Int) + (k : Int) = n at *
        generalize (fr : Int) + (l.length : Int) = t at *
        go_wp2_with (go_at_call 13; refine (unhide HM).mono ?_; rintro e w2 ⟨rfl, hA2, hm2⟩; have HX := hide (And.intro hA2 hm2); clear hA2 hm2)
        go_ret2
        obtain ⟨en, ee, em⟩ := unhide HE
        rw [en, ee, em]
        exact ⟨rfl, (unhide HX).1, (Moves.of_below _ (unhide HB)).then (unhide HX).2⟩
      | some x =>
        have hsec : (sec fr l ((fr : Int) + (k : Int))).isSome = true := by rw [sec_of hlt, hs]; rfl
        have HM := hide (mark_there _ gen wr (unhide HA2) (in_of hlt) (by unfold I64; omega) hsec)
        have HS : Hid (l[k]? = some (some x)) := by show l[k]? = some (some x); rw [List.getElem?_eq_getElem hlt, hs]
        clear hs hsec
        go_wp2_with (go_at_call 13; refine (unhide HM).mono ?_; rintro e w2 ⟨rfl, hb2⟩; have HX := hide hb2; clear hb2)
        go_roundw
        case rel =>
          refine ⟨k + 1, by omega, by go_num, (unhide HB).trans ((unhide HX).mono (unhide HB).size), fun j hj => ?_⟩
          by_cases e : j = k
          · subst e; rw [unhide HS]; simp
          · exact unhide HP j (by omega)
        case measure => simp [intOf]; omega
    · have hkl : k = l.length := by omega
      subst hkl
      have htk := take_none (unhide HP)
      have en : takeN fr l = 0 := by unfold takeN; rw [htk]
      have ee : takeE l = 50 := by unfold takeE; rw [htk]
      have em : takeM l gen = l := by unfold takeM; rw [htk]
      have HE := hide (And.intro en (And.intro ee em))
      clear htk en ee em
      generalize (fr : Int) + (l.length : Int) = t at *
      go_wp2
      go_ret2
      obtain ⟨en, ee, em⟩ := unhide HE
      rw [en, ee, em]
      exact ⟨rfl, unhide HA2, Moves.of_below _ (unhide HB)⟩

/-- an allocator, and what a law keeps -/
structure Stp (W w : World) (d b fr : Nat) (l : List St) : Prop where
  al : AllocAt w d b fr l
  bel : Below W.heap.size W w
  new : W.heap.size ≤ b
theorem Stp.grow {W : World} (h : Stp W w d b fr l) (hb : Below w.heap.size w w') : Stp W w' d b fr l := ⟨h.al.grow hb, h.bel.trans (hb.mono h.bel.size), h.new⟩
theorem Stp.turn {W : World} {l' : List St} (h : Stp W w d b fr l) (ha : AllocAt w' d b fr l') (hm : Moves [b] w w') : Stp W w' d b fr l' :=
  ⟨ha, Moves.below h.bel hm (by simpa using h.new) h.bel.size, h.new⟩

set_option maxHeartbeats 4000000 in
set_option maxRecDepth 20000 in
theorem awake_any (w : World) : Calls Try.prog 8 #[] w fun e w' => e = .returned (.bool true) ∧ Below w.heap.size w w' := by
  have g7 : Hid (I64 7) := by show I64 7; unfold I64; omega
  have e1 : takeN 2 (newM 2 5) = 2 := by decide
  have e2 : takeE (newM 2 5) = 0 := by decide
  have e3 : takeM (newM 2 5) 7 = [some (1, 7), none, none] := by decide
  have e4 : takeN 2 [some (1, 7), none, none] = 3 := by decide
  have e5 : takeE [some (1, 7), none, none] = 0 := by decide
  have e6 : takeM [some (1, 7), none, none] 7 = [some (1, 7), some (1, 7), none] := by decide
  have e7 : (room [some (1, 7), some (1, 7), none] : Int) = 1 := by decide
  have HE := hide (And.intro e1 (And.intro e2 (And.intro e3 (And.intro e4 (And.intro e5 (And.intro e6 e7))))))
  clear e1 e2 e3 e4 e5 e6 e7
  have HN := hide (new_ok 2 5 w (by decide) (by decide))
  go_enter Try.func8, Try.ntmps8
  go_wp2_with fail
  refine (unhide HN).mono ?_
  rintro e w1 ⟨d, b, rfl, hA, hb, _, hnb⟩
  have HS : Hid (Stp w w1 d b 2 (newM 2 5)) := ⟨hA, hb, hnb⟩
  clear hA hb hnb
  go_wp2_with fail
  refine (take_any 7 (unhide g7) w1 (unhide HS).al).mono ?_
  rintro e w2 ⟨rfl, hA2, hm2⟩
  obtain ⟨e1, e2, e3, e4, e5, e6, e7⟩ := unhide HE
  rw [e3] at hA2
  rw [e1, e2]
  have HS2 := hide ((unhide HS).turn hA2 hm2)
  clear hA2 hm2 e1 e2 e3 e4 e5 e6 e7
  go_wp2_with fail
  refine (take_any 7 (unhide g7) w2 (unhide HS2).al).mono ?_
  rintro e w3 ⟨rfl, hA3, hm3⟩
  obtain ⟨e1, e2, e3, e4, e5, e6, e7⟩ := unhide HE
  rw [e6] at hA3
  rw [e4, e5]
  have HS3 := hide ((unhide HS2).turn hA3 hm3)
  clear hA3 hm3 e1 e2 e3 e4 e5 e6 e7
  go_wp2_with fail
  refine (room_any w3 (unhide HS3).al).mono ?_
  rintro e w4 ⟨rfl, hb4⟩
  obtain ⟨e1, e2, e3, e4, e5, e6, e7⟩ := unhide HE
  rw [e7]
  have HS4 := hide ((unhide HS3).grow hb4)
  clear hb4 e1 e2 e3 e4 e5 e6 e7
  go_wp2
  go_ret
  exact ⟨rfl, (unhide HS4).bel⟩

set_option maxHeartbeats 4000000 in
set_option maxRecDepth 20000 in
/-- AllocNil -/
theorem nil_walk (n gen : Int) (w : World) : Calls Try.prog 7 #[.int .i64 n, .int .i64 gen] w fun e w' => e = .returned (.bool true) ∧ Below w.heap.size w w' := by
  go_enter Try.func7, Try.ntmps7
  go_wp2_with (first
    | (go_at_call 11; refine (take_nil gen _).mono ?_; rintro e w1 ⟨rfl, rfl⟩)
    | (go_at_call 8; refine (awake_any _).mono ?_; rintro e w2 ⟨rfl, hb⟩)
    | (go_at_call 13; refine (mark_nil n gen _).mono ?_; rintro e w1 ⟨rfl, rfl⟩)
    | (go_at_call 15; refine (hold_nil n _).mono ?_; rintro e w1 ⟨rfl, rfl⟩)
    | (go_at_call 17; refine (drop_nil n gen _).mono ?_; rintro e w1 ⟨rfl, rfl⟩)
    | (go_at_call 19; refine (free_nil gen _).mono ?_; rintro e w1 ⟨rfl, rfl⟩)
    | (go_at_call 21; refine (count_nil n _).mono ?_; rintro e w1 ⟨rfl, rfl⟩)
    | (go_at_call 23; refine (room_nil _).mono ?_; rintro e w1 ⟨rfl, rfl⟩)
    | (go_at_call 25; refine (waiting_nil _).mono ?_; rintro e w1 ⟨rfl, rfl⟩))
  go_ret
  exact ⟨rfl, hb⟩
end Go.Proofs.Ytkfpeffiphdhmaa
