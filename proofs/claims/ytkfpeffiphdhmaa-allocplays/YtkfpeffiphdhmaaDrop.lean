/- Drop. -/
import Derived.Test.YtkfpeffiphdhmaaHold
namespace Go.Proofs.Ytkfpeffiphdhmaa
open Go.ChangeShapes Go.WideShapes Go.ChangeAt Go.RowKit Go.Maps

variable {w w' : World} {d b fr : Nat} {l : List St}

set_option maxHeartbeats 400000 in
theorem drop_nil (n gen : Int) (w : World) : Calls Try.prog 17 #[.pointer none, .int .i64 n, .int .i64 gen] w fun e w' => e = .returned (.int .i64 2) ∧ w' = w := by
  go_enter Try.func17, Try.ntmps17
  go_wp2
  go_ret
  exact ⟨rfl, rfl⟩
set_option maxHeartbeats 1000000 in
set_option maxRecDepth 20000 in
theorem drop_free (n gen : Int) (w : World) (h : AllocAt w d b fr l) (hn : I64 n) (hc : cntS (sec fr l n) = 0) :
    Calls Try.prog 17 #[.pointer (some ⟨d, 0, none⟩), .int .i64 n, .int .i64 gen] w fun e w' => e = .returned (.int .i64 51) ∧ w' = w := by
  have HC := hide (count_is hn w h hc)
  clear h hn hc
  go_enter Try.func17, Try.ntmps17
  go_wp2_with (go_at_call 21; refine (unhide HC).mono ?_; rintro e w' ⟨rfl, rfl⟩)
  go_ret
  exact ⟨rfl, rfl⟩
set_option maxHeartbeats 2000000 in
set_option maxRecDepth 20000 in
theorem drop_more (n gen : Int) (w : World) (h : AllocAt w d b fr l) (hn : I64 n) (c : Nat) (g : Int) (hs : sec fr l n = some (c + 2, g)) :
    Calls Try.prog 17 #[.pointer (some ⟨d, 0, none⟩), .int .i64 n, .int .i64 gen] w fun e w' => e = .returned (.int .i64 0) ∧ AllocAt w' d b fr (upd fr l n (some (c + 1, g))) ∧ Moves [b] w w' := by
  have c2 := h.cell2
  have hl := (h.map.look_any hn).2
  rw [hs] at hl
  have hl2 : Sem.run Try.prog (Instr.lookup 47 (.map (some b)) (.int .i64 n) false) w = .ok (.agg #[.int .i64 ((c + 2 : Nat) : Int), .int .i64 g]) w := hl
  clear hl
  have hgood := h.ok.sec n
  rw [hs] at hgood
  have hgo : c + 2 ≤ 5000 ∧ I64 g := hgood
  have HC := hide (count_is (c := c + 2) hn w h (by rw [hs]; rfl))
  obtain ⟨x, hx⟩ : ∃ x : Int, x = ((c + 2 : Nat) : Int) := ⟨_, rfl⟩
  rw [← hx] at hl2 HC
  have hw : IntKind.i64.wrap (x - 1) = x - 1 := by rw [IntKind.wrap_i64]; omega
  have k0 : ¬ x = 0 := by omega
  have k1 : 0 < x - 1 := by omega
  have HX1 : Hid (x - 1 = ((c + 1 : Nat) : Int)) := by show x - 1 = ((c + 1 : Nat) : Int); omega
  have hi := sec_some hs
  have HI := hide hi
  have HGO := hide hgo
  have HA := hide h
  clear h hn hs hgood hgo hi hx
  go_enter Try.func17, Try.ntmps17
  go_wp2_with (go_at_call 21; refine (unhide HC).mono ?_; rintro e w ⟨rfl, rfl⟩)
  have HB : Hid (Below w.heap.size w (w.alloc (.cells #[.int .i64 (x - 1), .int .i64 g] 56)).drew) := ((Below.refl _ w).alloc (Nat.le_refl _) _).drew
  have hA2 := (unhide HA).grow (unhide HB)
  have q2 := hA2.cell2
  have r0 : (w.alloc (.cells #[.int .i64 (x - 1), .int .i64 g] 56)).drew.cell? ⟨w.heap.size, 0, none⟩ = some (.int .i64 (x - 1)) := by simp
  have r1 : (w.alloc (.cells #[.int .i64 (x - 1), .int .i64 g] 56)).drew.cell? ⟨w.heap.size, 1, none⟩ = some (.int .i64 g) := by simp
  obtain ⟨w3, hrun, hs3, hg3⟩ := hA2.map.store hA2.ok (unhide HI) (c + 1) g
  rw [← unhide HX1] at hrun
  have HX := hide (And.intro hA2 (And.intro hs3 hg3))
  clear hA2 hs3 hg3 hl2 c2
  obtain ⟨p, hp⟩ : ∃ y, y = w.heap.size := ⟨_, rfl⟩
  rw [← hp] at r0 r1 ⊢
  clear hp
  generalize w.alloc (.cells #[.int .i64 (x - 1), .int .i64 g] 56) = wa at *
  generalize x - 1 = y at *
  go_region
  all_goals
    go_wp2
    go_ret
    obtain ⟨hA2, hs3, hg3⟩ := unhide HX
    exact ⟨rfl, hA2.turn hg3 hs3 (upd_length _ _ _ _) (hA2.ok.upd _ ⟨by have := unhide HGO; omega, (unhide HGO).2⟩), (Moves.of_below _ (unhide HB)).then (Moves.of_grown hg3 (by simp))⟩
set_option maxHeartbeats 2000000 in
set_option maxRecDepth 20000 in
theorem drop_last (n gen : Int) (w : World) (h : AllocAt w d b fr l) (hn : I64 n) (hs : sec fr l n = some (1, gen)) :
    Calls Try.prog 17 #[.pointer (some ⟨d, 0, none⟩), .int .i64 n, .int .i64 gen] w fun e w' => e = .returned (.int .i64 0) ∧ AllocAt w' d b fr (upd fr l n none) ∧ Moves [b] w w' := by
  have c2 := h.cell2
  have hl := (h.map.look_any hn).2
  rw [hs] at hl
  have hl2 : Sem.run Try.prog (Instr.lookup 47 (.map (some b)) (.int .i64 n) false) w = .ok (.agg #[.int .i64 1, .int .i64 gen]) w := hl
  clear hl
  have HC := hide (count_is (c := 1) hn w h (by rw [hs]; rfl))
  have HC1 : Hid (Calls Try.prog 21 #[.pointer (some ⟨d, 0, none⟩), .int .i64 n] w fun e w' => e = .returned (.int .i64 1) ∧ w' = w) := unhide HC
  have HI := hide (sec_some hs)
  have HB : Hid (Below w.heap.size w (w.alloc (.cells #[.int .i64 0, .int .i64 gen] 56))) := (Below.refl _ w).alloc (Nat.le_refl _) _
  have hA2 := h.grow (unhide HB)
  have q2 := hA2.cell2
  have HA := hide hA2
  clear h hn hs HC hA2
  go_enter Try.func17, Try.ntmps17
  go_wp2_with (first
    | (go_at_call 21; refine (unhide HC1).mono ?_; rintro e w ⟨rfl, rfl⟩)
    | (at_delete; refine wp_del rfl _ _ rfl rfl rfl (unhide HA).map (unhide HA).ok (unhide HI) ?_; intro w3 hs3 hg3; have HX := hide (And.intro hs3 hg3); clear hs3 hg3))
  go_ret
  obtain ⟨hs3, hg3⟩ := unhide HX
  exact ⟨rfl, (unhide HA).turn hg3 hs3 (upd_length _ _ _ _) ((unhide HA).ok.upd _ trivial), (Moves.of_below _ (unhide HB)).then (Moves.of_grown hg3 (by simp))⟩
set_option maxHeartbeats 2000000 in
set_option maxRecDepth 20000 in
theorem drop_wait (n gen g : Int) (w : World) (h : AllocAt w d b fr l) (hn : I64 n) (hgen : I64 gen) (hs : sec fr l n = some (1, g)) (hne : g ≠ gen) :
    Calls Try.prog 17 #[.pointer (some ⟨d, 0, none⟩), .int .i64 n, .int .i64 gen] w fun e w' => e = .returned (.int .i64 0) ∧ AllocAt w' d b fr (upd fr l n (some (0, gen))) ∧ Moves [b] w w' := by
  have c2 := h.cell2
  have hl := (h.map.look_any hn).2
  rw [hs] at hl
  have hl2 : Sem.run Try.prog (Instr.lookup 47 (.map (some b)) (.int .i64 n) false) w = .ok (.agg #[.int .i64 1, .int .i64 g]) w := hl
  clear hl
  have HC := hide (count_is (c := 1) hn w h (by rw [hs]; rfl))
  have HC1 : Hid (Calls Try.prog 21 #[.pointer (some ⟨d, 0, none⟩), .int .i64 n] w fun e w' => e = .returned (.int .i64 1) ∧ w' = w) := unhide HC
  have HI := hide (sec_some hs)
  have HB : Hid (Below w.heap.size w (w.alloc (.cells #[.int .i64 0, .int .i64 g] 56))) := (Below.refl _ w).alloc (Nat.le_refl _) _
  have hA2 := h.grow (unhide HB)
  have q2 := hA2.cell2
  have HA := hide hA2
  have HG := hide hgen
  have hne' : ¬ g = gen := hne
  clear h hn hs HC hA2 hgen hne
  go_enter Try.func17, Try.ntmps17
  go_wp2_with (first
    | (go_at_call 21; refine (unhide HC1).mono ?_; rintro e w ⟨rfl, rfl⟩)
    | (at_mapUpdate; refine wp_store (c := 0) rfl _ _ _ rfl rfl rfl rfl (unhide HA).map (unhide HA).ok (unhide HI) ?_; intro w3 hs3 hg3; have HX := hide (And.intro hs3 hg3); clear hs3 hg3))
  go_ret
  obtain ⟨hs3, hg3⟩ := unhide HX
  exact ⟨rfl, (unhide HA).turn hg3 hs3 (upd_length _ _ _ _) ((unhide HA).ok.upd _ ⟨by decide, unhide HG⟩), (Moves.of_below _ (unhide HB)).then (Moves.of_grown hg3 (by simp))⟩

/-- a sector that stays as it was -/
theorem upd_same {fr : Nat} {l : List St} {n : Int} : upd fr l n (sec fr l n) = l := by
  unfold upd
  split
  · rename_i hi
    apply List.ext_getElem?
    intro j
    rw [List.getElem?_set]
    split
    · rename_i ej
      subst ej
      rw [if_pos (ix_lt hi), sec_at hi]
    · rfl
  · rfl
theorem drop_any (n gen : Int) (w : World) (h : AllocAt w d b fr l) (hn : I64 n) (hgen : I64 gen) :
    Calls Try.prog 17 #[.pointer (some ⟨d, 0, none⟩), .int .i64 n, .int .i64 gen] w fun e w' => e = .returned (.int .i64 (dropE fr l n)) ∧ AllocAt w' d b fr (dropM fr l n gen) ∧ Moves [b] w w' := by
  unfold dropE dropM
  by_cases h0 : cntS (sec fr l n) = 0
  · have e2 : dropS gen (sec fr l n) = sec fr l n := by
      cases hs : sec fr l n with
      | none => rfl
      | some x => obtain ⟨c, g⟩ := x; rw [hs] at h0; change c = 0 at h0; subst h0; rfl
    rw [if_pos h0, e2, upd_same]
    refine (drop_free n gen w h hn h0).mono ?_
    rintro e w' ⟨rfl, rfl⟩
    exact ⟨rfl, h, Moves.refl _ _⟩
  · rw [if_neg h0]
    cases hs : sec fr l n with
    | none => rw [hs] at h0; exact absurd rfl h0
    | some x =>
      obtain ⟨c, g⟩ := x
      rw [hs] at h0
      change ¬ c = 0 at h0
      match c, h0, hs with
      | 1, _, hs =>
        have e1 : dropS gen (some (1, g)) = if g = gen then none else some (0, gen) := rfl
        rw [e1]
        clear e1
        by_cases hg : g = gen
        · subst hg
          rw [if_pos rfl]
          exact drop_last n g w h hn hs
        · rw [if_neg hg]
          exact drop_wait n gen g w h hn hgen hs hg
      | c + 2, _, hs => exact drop_more n gen w h hn c g hs
end Go.Proofs.Ytkfpeffiphdhmaa
