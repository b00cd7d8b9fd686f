/- The document's allocator: Drop. -/
import Derived.Test.YtkfpeffiphdhmaaRefb
namespace Go.Proofs.Ytkfpeffiphdhmaa
open Go.ChangeShapes Go.WideShapes Go.ChangeAt Go.RowKit

variable {w w' : World} {r g fr : Nat} {l : List St}

set_option maxHeartbeats 1000000 in
set_option maxRecDepth 20000 in
theorem rdrop_free (n gen : Int) (hn : I64 n) (w : World) (h : RefAt w r g fr l) (hc : cntS (sec fr l n) = 0) :
    Calls Try.prog 18 #[.pointer (some ⟨r, 0, none⟩), .int .i64 n, .int .i64 gen] w fun e w' => e = .returned (.int .i64 51) ∧ Below w.heap.size w w' := by
  by_cases hi : In fr l n
  · have hlt := ix_lt hi
    have HR := hide (rat_in n w h hi)
    have HH := hide h
    have HI := hide hi
    have hlt' : (ix fr n : Int) < (l.length : Int) := by omega
    have HX := hide hc
    clear h hi hc hn
    go_enter Try.func18, Try.ntmps18
    go_wp2_with (go_at_call 27; refine (unhide HR).mono ?_; rintro e w1 ⟨rfl, hb1⟩; have hA := (unhide HH).grow hb1; have HB1 := hide hb1; have c1 := hA.cell1; obtain ⟨q, hq, hrep⟩ := hA.at (unhide HI); have q0 := hq.c0; rw [hrep.cnt, unhide HX] at q0; have q0' : w1.cell? ⟨g, ix fr n * 4, none⟩ = some (.int .i64 0) := q0; clear hA hb1 hq hrep q0)
    go_ret
    exact ⟨rfl, unhide HB1⟩
  · have HR := hide (rat_out n hn w h hi)
    clear h hi hn hc
    go_enter Try.func18, Try.ntmps18
    go_wp2_with (go_at_call 27; refine (unhide HR).mono ?_; rintro e w1 ⟨rfl, hb1⟩; have HB1 := hide hb1; clear hb1)
    go_ret
    exact ⟨rfl, unhide HB1⟩
set_option maxHeartbeats 1000000 in
set_option maxRecDepth 20000 in
theorem rdrop_more (n gen : Int) (w : World) (h : RefAt w r g fr l) (c : Nat) (gn : Int) (hs : sec fr l n = some (c + 2, gn)) :
    Calls Try.prog 18 #[.pointer (some ⟨r, 0, none⟩), .int .i64 n, .int .i64 gen] w fun e w' => e = .returned (.int .i64 0) ∧ RefAt w' r g fr (upd fr l n (some (c + 1, gn))) ∧ Moves [g] w w' := by
  have hi := sec_some hs
  have hlt := ix_lt hi
  have HR := hide (rat_in n w h hi)
  have HH := hide h
  have HI := hide hi
  have hlt' : (ix fr n : Int) < (l.length : Int) := by omega
  have HX := hide hs
  have hgo := h.ok.sec n
  rw [hs] at hgo
  have hgo2 : c + 2 ≤ 5000 ∧ I64 gn := hgo
  have HG := hide hgo2
  obtain ⟨x, hx⟩ : ∃ x : Int, x = ((c + 1 : Nat) : Int) + 1 := ⟨_, rfl⟩
  obtain ⟨y, hy⟩ : ∃ y : Int, y = x - 1 := ⟨_, rfl⟩
  have x0 : (x == 0) = false := beq_false_of_ne (by omega)
  have y0 : (y == 0) = false := beq_false_of_ne (by omega)
  have n0 : decide ((ix fr n : Int) < 0) = false := decide_eq_false (by omega)
  have hw : IntKind.i64.wrap (x - 1) = y := by rw [IntKind.wrap_i64]; omega
  have HXX := hide (And.intro hx hy)
  clear h hi hs hgo hgo2 hx hy
  go_enter Try.func18, Try.ntmps18
  go_wp2_with (go_at_call 27; refine (unhide HR).mono ?_; rintro e w1 ⟨rfl, hb1⟩; have hA := (unhide HH).grow hb1; have HA := hide hA; have HB1 := hide hb1; have c1 := hA.cell1; have hf := hA.free; obtain ⟨q, hq, hrep⟩ := hA.at (unhide HI); rw [unhide HX] at hrep; have q0 := hq.c0; rw [hrep.1, ← (unhide HXX).1] at q0; have hne : r ≠ g := hA.ne; have HQ := hide (And.intro hq hrep); clear hA hb1 hq hrep)
  go_ret
  rw [upd_in _ (unhide HI)]
  have hrep := (unhide HQ).2
  exact ⟨rfl, (unhide HA).set0 (c := y) (s := some (c + 1, gn)) hlt (unhide HQ).1 ⟨by show y = (c : Int) + 1; have := unhide HXX; omega, hrep.2.1, hrep.2.2⟩ ⟨by have := (unhide HG).1; omega, (unhide HG).2⟩, (Moves.of_below _ (unhide HB1)).then (Moves.set _ _ _ _ (by simp))⟩
set_option maxHeartbeats 2000000 in
set_option maxRecDepth 20000 in
theorem rdrop_last (n gen : Int) (hgen : I64 gen) (w : World) (h : RefAt w r g fr l) (gn : Int) (hs : sec fr l n = some (1, gn)) (s' : St) (hs' : s' = if gn = gen then none else some (0, gen)) :
    Calls Try.prog 18 #[.pointer (some ⟨r, 0, none⟩), .int .i64 n, .int .i64 gen] w fun e w' => e = .returned (.int .i64 0) ∧ RefAt w' r g fr (upd fr l n s') ∧ Moves [g] w w' := by
  have hi := sec_some hs
  have hlt := ix_lt hi
  have HR := hide (rat_in n w h hi)
  have HH := hide h
  have HI := hide hi
  have hlt' : (ix fr n : Int) < (l.length : Int) := by omega
  have HX := hide hs
  have HGEN := hide hgen
  have hrep' : Rep ⟨0, 0, gen, gn != gen⟩ s' ∧ goodS s' := by
    rw [hs']
    by_cases e : gn = gen
    · rw [if_pos e, e]
      exact ⟨⟨rfl, by simp⟩, trivial⟩
    · rw [if_neg e]
      exact ⟨⟨rfl, by simp [e], rfl⟩, by decide, hgen⟩
  have HREP := hide hrep'
  have n0 : decide ((ix fr n : Int) < 0) = false := decide_eq_false (by omega)
  clear h hi hs hgen hs' hrep'
  go_enter Try.func18, Try.ntmps18
  go_wp2_with (go_at_call 27; refine (unhide HR).mono ?_; rintro e w1 ⟨rfl, hb1⟩; have hA := (unhide HH).grow hb1; have HA := hide hA; have HB1 := hide hb1; have c1 := hA.cell1; have hf := hA.free; obtain ⟨q, hq, hrep⟩ := hA.at (unhide HI); rw [unhide HX] at hrep; have q0 := hq.c0; rw [hrep.1] at q0; have q0' : w1.cell? ⟨g, ix fr n * 4, none⟩ = some (.int .i64 1) := q0; have hne : r ≠ g := hA.ne; have HQ := hide (And.intro hq hrep); clear hA hb1 hq hrep q0)
  have hS := (unhide HA).set0 (c := 0) (s := none) hlt (unhide HQ).1 ⟨rfl, (unhide HQ).2.2.1⟩ trivial
  have hcs : CellsAt (w1.setCell ⟨g, ix fr n * 4, none⟩ (.int .i64 0)) g (ix fr n * 4) ⟨0, gn, q.f, q.wt⟩ := by
    refine ⟨World.cell?_setCell_same _ _ _ (unhide HQ).1.c0, ?_, ?_, ?_⟩
    · rw [World.cell?_setCell_other _ _ _ _ (addr_ne (by omega)), (unhide HQ).1.c1, (unhide HQ).2.2.2]
    · exact (World.cell?_setCell_other _ _ _ _ (addr_ne (by omega))).trans (unhide HQ).1.c2
    · exact (World.cell?_setCell_other _ _ _ _ (addr_ne (by omega))).trans (unhide HQ).1.c3
  have HM : Hid (Moves [g] w (w1.setCell ⟨g, ix fr n * 4, none⟩ (.int .i64 0)).drew) := (Moves.of_below _ (unhide HB1)).then ((Moves.set _ _ _ _ (by simp)).then (Moves.drew _ _))
  have hS2 := hS.grow ((Below.refl _ _).drew)
  have hlen2 : (l.set (ix fr n) none).length = l.length := List.length_set
  have d1 := hS.cell1
  rw [hlen2] at d1
  have df := hS.free
  have e0 : (w1.setCell ⟨g, ix fr n * 4, none⟩ (.int .i64 0)).cell? ⟨g, ix fr n * 4, none⟩ = some (.int .i64 0) := hcs.c0
  have e1 : (w1.setCell ⟨g, ix fr n * 4, none⟩ (.int .i64 0)).cell? ⟨g, ix fr n * 4 + 1, none⟩ = some (.int .i64 gn) := hcs.c1
  have e2 : (w1.setCell ⟨g, ix fr n * 4, none⟩ (.int .i64 0)).cell? ⟨g, ix fr n * 4 + 2, none⟩ = some (.int .i64 q.f) := hcs.c2
  have e3 : (w1.setCell ⟨g, ix fr n * 4, none⟩ (.int .i64 0)).cell? ⟨g, ix fr n * 4 + 3, none⟩ = some (.bool q.wt) := hcs.c3
  have HS2 := hide hS
  clear hS hS2 hcs hf c1 q0'
  generalize w1.setCell ⟨g, ix fr n * 4, none⟩ (.int .i64 0) = wa at *
  go_region
  all_goals
    go_wp2
    go_ret
    rw [upd_in _ (unhide HI)]
    have hp := (unhide HS2).put (i := ix fr n) (by rw [List.length_set]; exact hlt) (unhide HREP).1 (unhide HREP).2
    rw [List.set_set] at hp
    exact ⟨rfl, hp.grow (Below.refl _ _).drew, (unhide HM).then (put4_moves wa.drew g (ix fr n * 4) ⟨0, 0, gen, gn != gen⟩)⟩
theorem rdrop_any (n gen : Int) (w : World) (h : RefAt w r g fr l) (hn : I64 n) (hgen : I64 gen) :
    Calls Try.prog 18 #[.pointer (some ⟨r, 0, none⟩), .int .i64 n, .int .i64 gen] w fun e w' => e = .returned (.int .i64 (dropE fr l n)) ∧ RefAt w' r g fr (dropM fr l n gen) ∧ Moves [g] w w' := by
  unfold dropE dropM
  by_cases h0 : cntS (sec fr l n) = 0
  · have e2 : dropS gen (sec fr l n) = sec fr l n := by
      cases hs : sec fr l n with
      | none => rfl
      | some x => obtain ⟨c, g⟩ := x; rw [hs] at h0; change c = 0 at h0; subst h0; rfl
    rw [if_pos h0, e2, upd_same]
    refine (rdrop_free n gen hn w h h0).mono ?_
    rintro e w' ⟨rfl, hb⟩
    exact ⟨rfl, h.grow hb, Moves.of_below _ hb⟩
  · rw [if_neg h0]
    cases hs : sec fr l n with
    | none => rw [hs] at h0; exact absurd rfl h0
    | some x =>
      obtain ⟨c, gn⟩ := x
      rw [hs] at h0
      change ¬ c = 0 at h0
      match c, h0, hs with
      | 1, _, hs => exact rdrop_last n gen hgen w h gn hs _ rfl
      | c + 2, _, hs => exact rdrop_more n gen w h c gn hs
end Go.Proofs.Ytkfpeffiphdhmaa
