/- Hold. -/
import Derived.Test.YtkfpeffiphdhmaaAlloc
namespace Go.Proofs.Ytkfpeffiphdhmaa
open Go.ChangeShapes Go.WideShapes Go.ChangeAt Go.RowKit Go.Maps

variable {w w' : World} {d b fr : Nat} {l : List St}

set_option maxHeartbeats 400000 in
theorem hold_nil (n : Int) (w : World) : Calls Try.prog 15 #[.pointer none, .int .i64 n] w fun e w' => e = .returned (.int .i64 2) ∧ w' = w := by
  go_enter Try.func15, Try.ntmps15
  go_wp2
  go_ret
  exact ⟨rfl, rfl⟩
theorem count_is {n : Int} {c : Nat} (hn : I64 n) (w : World) (h : AllocAt w d b fr l) (hc : cntS (sec fr l n) = c) :
    Calls Try.prog 21 #[.pointer (some ⟨d, 0, none⟩), .int .i64 n] w fun e w' => e = .returned (.int .i64 (c : Int)) ∧ w' = w := by
  subst hc
  exact count_any n hn w h
set_option maxHeartbeats 1000000 in
set_option maxRecDepth 20000 in
theorem hold_free (n : Int) (w : World) (h : AllocAt w d b fr l) (hn : I64 n) (hc : cntS (sec fr l n) = 0) :
    Calls Try.prog 15 #[.pointer (some ⟨d, 0, none⟩), .int .i64 n] w fun e w' => e = .returned (.int .i64 51) ∧ w' = w := by
  have HC := hide (count_is hn w h hc)
  clear h hn hc
  go_enter Try.func15, Try.ntmps15
  go_wp2_with (go_at_call 21; refine (unhide HC).mono ?_; rintro e w' ⟨rfl, rfl⟩)
  go_ret
  exact ⟨rfl, rfl⟩
set_option maxHeartbeats 1000000 in
set_option maxRecDepth 20000 in
theorem hold_many (n : Int) (w : World) (h : AllocAt w d b fr l) (hn : I64 n) (hc : cntS (sec fr l n) = 5000) :
    Calls Try.prog 15 #[.pointer (some ⟨d, 0, none⟩), .int .i64 n] w fun e w' => e = .returned (.int .i64 52) ∧ w' = w := by
  have HC := hide (count_is hn w h hc)
  clear h hn hc
  go_enter Try.func15, Try.ntmps15
  go_wp2_with (go_at_call 21; refine (unhide HC).mono ?_; rintro e w' ⟨rfl, rfl⟩)
  go_ret
  exact ⟨rfl, rfl⟩
set_option maxHeartbeats 2000000 in
set_option maxRecDepth 20000 in
theorem hold_ok (n : Int) (w : World) (h : AllocAt w d b fr l) (hn : I64 n) (c : Nat) (g : Int) (hs : sec fr l n = some (c, g)) (h0 : c ≠ 0) (h5 : c ≠ 5000) :
    Calls Try.prog 15 #[.pointer (some ⟨d, 0, none⟩), .int .i64 n] w fun e w' => e = .returned (.int .i64 0) ∧ AllocAt w' d b fr (upd fr l n (some (c + 1, g))) ∧ Moves [b] w w' := by
  have c2 := h.cell2
  have hl := (h.map.look_any hn).2
  rw [hs] at hl
  have hl2 : Sem.run Try.prog (Instr.lookup 47 (.map (some b)) (.int .i64 n) false) w = .ok (.agg #[.int .i64 (c : Int), .int .i64 g]) w := hl
  clear hl
  have hgood := h.ok.sec n
  rw [hs] at hgood
  have hgo : c ≤ 5000 ∧ I64 g := hgood
  have hw : IntKind.i64.wrap ((c : Int) + 1) = (c : Int) + 1 := by rw [IntKind.wrap_i64]; omega
  have k0 : ¬ (c : Int) = 0 := by omega
  have k5 : ¬ (c : Int) = 5000 := by omega
  have HC := hide (count_is (c := c) hn w h (by rw [hs]; rfl))
  have hi := sec_some hs
  have HI := hide hi
  have HGO := hide hgo
  have H5 := hide h5
  have HA := hide h
  clear h hn hs h0 h5 hgood hgo hi
  go_enter Try.func15, Try.ntmps15
  go_wp2_with (go_at_call 21; refine (unhide HC).mono ?_; rintro e w ⟨rfl, rfl⟩)
  have HB : Hid (Below w.heap.size w (w.alloc (.cells #[.int .i64 ((c : Int) + 1), .int .i64 g] 56)).drew) := ((Below.refl _ w).alloc (Nat.le_refl _) _).drew
  have hA2 := (unhide HA).grow (unhide HB)
  have q2 := hA2.cell2
  have r0 : (w.alloc (.cells #[.int .i64 ((c : Int) + 1), .int .i64 g] 56)).drew.cell? ⟨w.heap.size, 0, none⟩ = some (.int .i64 ((c : Int) + 1)) := by simp
  have r1 : (w.alloc (.cells #[.int .i64 ((c : Int) + 1), .int .i64 g] 56)).drew.cell? ⟨w.heap.size, 1, none⟩ = some (.int .i64 g) := by simp
  obtain ⟨w3, hrun, hs3, hg3⟩ := hA2.map.store hA2.ok (unhide HI) (c + 1) g
  rw [show (((c + 1 : Nat) : Int)) = (c : Int) + 1 by omega] at hrun
  have HX := hide (And.intro hA2 (And.intro hs3 hg3))
  clear hA2 hs3 hg3 hl2 c2
  obtain ⟨p, hp⟩ : ∃ y, y = w.heap.size := ⟨_, rfl⟩
  rw [← hp] at r0 r1 ⊢
  clear hp
  generalize w.alloc (.cells #[.int .i64 ((c : Int) + 1), .int .i64 g] 56) = wa at *
  go_region
  all_goals
    go_wp2
    go_ret
    obtain ⟨hA2, hs3, hg3⟩ := unhide HX
    exact ⟨rfl, hA2.turn hg3 hs3 (upd_length _ _ _ _) (hA2.ok.upd _ ⟨by have := unhide HGO; have := unhide H5; omega, (unhide HGO).2⟩), (Moves.of_below _ (unhide HB)).then (Moves.of_grown hg3 (by simp))⟩
theorem hold_any (n : Int) (w : World) (h : AllocAt w d b fr l) (hn : I64 n) :
    Calls Try.prog 15 #[.pointer (some ⟨d, 0, none⟩), .int .i64 n] w fun e w' => e = .returned (.int .i64 (holdE fr l n)) ∧ AllocAt w' d b fr (holdM fr l n) ∧ Moves [b] w w' := by
  unfold holdE holdM
  by_cases h5 : cntS (sec fr l n) = 5000
  · rw [if_pos h5, if_pos h5, if_neg (by omega)]
    refine (hold_many n w h hn h5).mono ?_
    rintro e w' ⟨rfl, rfl⟩
    exact ⟨rfl, h, Moves.refl _ _⟩
  · rw [if_neg h5, if_neg h5]
    have none_case : ∀ s, s = sec fr l n → cntS s = 0 → upd fr l n (holdS (sec fr l n)) = l := by
      intro s e h0
      rw [← e]
      have e2 : holdS s = s := by
        cases s with
        | none => rfl
        | some x => obtain ⟨c, g⟩ := x; change c = 0 at h0; subst h0; rfl
      rw [e2]
      unfold upd
      split
      · rename_i hi
        apply List.ext_getElem?
        intro j
        rw [List.getElem?_set]
        split
        · rename_i ej
          subst ej
          rw [if_pos (ix_lt hi), sec_at hi, e]
        · rfl
      · rfl
    by_cases h0 : cntS (sec fr l n) = 0
    · rw [if_pos h0, none_case _ rfl h0]
      refine (hold_free n w h hn h0).mono ?_
      rintro e w' ⟨rfl, rfl⟩
      exact ⟨rfl, h, Moves.refl _ _⟩
    · rw [if_neg h0]
      cases hs : sec fr l n with
      | none => rw [hs] at h0; exact absurd rfl h0
      | some x =>
        obtain ⟨c, g⟩ := x
        rw [hs] at h0 h5
        change ¬ c = 0 at h0
        change ¬ c = 5000 at h5
        obtain ⟨k, rfl⟩ : ∃ k, c = k + 1 := ⟨c - 1, by omega⟩
        exact hold_ok n w h hn (k + 1) g hs h0 h5
end Go.Proofs.Ytkfpeffiphdhmaa
