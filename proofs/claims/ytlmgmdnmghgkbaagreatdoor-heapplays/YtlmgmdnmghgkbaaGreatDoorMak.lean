/- Texts that the proof needs, one behind the other. -/
import Derived.Test.YtlmgmdnmghgkbaaGreatDoorMaj
import Derived.Test.YtlmgmdnmghgkbaaGreatDoorMai
import Derived.Test.YtlmgmdnmghgkbaaGreatDoorMab
import Derived.Test.YtlmgmdnmghgkbaaGreatDoorMah
import Derived.WalkSmall
import Derived.Test.YtlmgmdnmghgkbaaGreatDoorMad
import Derived.Deep.QuietTactic
import Derived.BigQuiet
/- The document's allocator: Count, Mark, Hold. -/
namespace Go.Proofs.YtlmgmdnmghgkbaaGreatDoor.L5
open Go.ChangeShapes Go.WideShapes Go.ChangeAt Go.RowKit

variable {w w' : World} {r g fr : Nat} {l : List St}

theorem Rep.cnt {q : Rc} {s : St} (h : Rep q s) : q.c = (cntS s : Int) := by
  match s, h with
  | none, h => exact h.1
  | some (0, g), h => exact h.1
  | some (c + 1, g), h => exact h.1
theorem Rep.wait {q : Rc} {s : St} (h : Rep q s) : q.wt = waitS s := by
  match s, h with
  | none, h => exact h.2
  | some (0, g), h => exact h.2.1
  | some (c + 1, g), h => exact h.2.1
/-- a sector of the document's, where it lies -/
theorem RefAt.at (h : RefAt w r g fr l) {n : Int} (hi : In fr l n) : ∃ q, CellsAt w g (ix fr n * 4) q ∧ Rep q (sec fr l n) := h.row _ _ (sec_at hi)

set_option maxHeartbeats 1000000 in
set_option maxRecDepth 20000 in
theorem rcount_in (n : Int) (w : World) (h : RefAt w r g fr l) (hi : In fr l n) :
    Calls Tryz.prog 63 #[.pointer (some ⟨r, 0, none⟩), .int .i64 n] w fun e w' => e = .returned (.int .i64 (cntS (sec fr l n) : Int)) ∧ Below w.heap.size w w' := by
  have hlt := ix_lt hi
  have HR := hide (rat_in n w h hi)
  have HH := hide h
  have HI := hide hi
  have hlt' : (ix fr n : Int) < (l.length : Int) := by omega
  clear h hi
  go_enter Tryz.func63, Tryz.ntmps63
  go_wp2_with (go_at_call 106; refine (unhide HR).mono ?_; rintro e w1 ⟨rfl, hb1⟩; have hA := (unhide HH).grow hb1; have HB1 := hide hb1; have c1 := hA.cell1; obtain ⟨q, hq, hrep⟩ := hA.at (unhide HI); have q0 := hq.c0; rw [hrep.cnt] at q0; clear hA hb1 hq hrep)
  go_ret
  exact ⟨rfl, unhide HB1⟩
set_option maxHeartbeats 1000000 in
set_option maxRecDepth 20000 in
theorem rcount_any (n : Int) (hn : I64 n) (w : World) (h : RefAt w r g fr l) :
    Calls Tryz.prog 63 #[.pointer (some ⟨r, 0, none⟩), .int .i64 n] w fun e w' => e = .returned (.int .i64 (cntS (sec fr l n) : Int)) ∧ Below w.heap.size w w' := by
  by_cases hi : In fr l n
  · exact rcount_in n w h hi
  · rw [sec_none hi]
    have HR := hide (rat_out n hn w h hi)
    clear h hi hn
    show Calls Tryz.prog 63 #[.pointer (some ⟨r, 0, none⟩), .int .i64 n] w fun e w' => e = .returned (.int .i64 0) ∧ Below w.heap.size w w'
    go_enter Tryz.func63, Tryz.ntmps63
    go_wp2_with (go_at_call 106; refine (unhide HR).mono ?_; rintro e w1 ⟨rfl, hb1⟩; have HB1 := hide hb1; clear hb1)
    go_ret
    exact ⟨rfl, unhide HB1⟩

/-! Mark -/
/-! Hold -/
set_option maxHeartbeats 1000000 in
set_option maxRecDepth 20000 in
theorem rhold_free (n : Int) (hn : I64 n) (w : World) (h : RefAt w r g fr l) (hc : cntS (sec fr l n) = 0) :
    Calls Tryz.prog 99 #[.pointer (some ⟨r, 0, none⟩), .int .i64 n] w fun e w' => e = .returned (.int .i64 51) ∧ Below w.heap.size w w' := by
  by_cases hi : In fr l n
  · have hlt := ix_lt hi
    have HR := hide (rat_in n w h hi)
    have HH := hide h
    have HI := hide hi
    have hlt' : (ix fr n : Int) < (l.length : Int) := by omega
    have HX := hide hc
    clear h hi hc hn
    go_enter Tryz.func99, Tryz.ntmps99
    go_wp2_with (go_at_call 106; refine (unhide HR).mono ?_; rintro e w1 ⟨rfl, hb1⟩; have hA := (unhide HH).grow hb1; have HB1 := hide hb1; have c1 := hA.cell1; obtain ⟨q, hq, hrep⟩ := hA.at (unhide HI); have q0 := hq.c0; rw [hrep.cnt, unhide HX] at q0; have q0' : w1.cell? ⟨g, ix fr n * 4, none⟩ = some (.int .i64 0) := q0; clear hA hb1 hq hrep q0)
    go_ret
    exact ⟨rfl, unhide HB1⟩
  · have HR := hide (rat_out n hn w h hi)
    clear h hi hn hc
    go_enter Tryz.func99, Tryz.ntmps99
    go_wp2_with (go_at_call 106; refine (unhide HR).mono ?_; rintro e w1 ⟨rfl, hb1⟩; have HB1 := hide hb1; clear hb1)
    go_ret
    exact ⟨rfl, unhide HB1⟩
set_option maxHeartbeats 1000000 in
set_option maxRecDepth 20000 in
theorem rhold_many (n : Int) (w : World) (h : RefAt w r g fr l) (hi : In fr l n) (hc : cntS (sec fr l n) = 5000) :
    Calls Tryz.prog 99 #[.pointer (some ⟨r, 0, none⟩), .int .i64 n] w fun e w' => e = .returned (.int .i64 52) ∧ Below w.heap.size w w' := by
  have hlt := ix_lt hi
  have HR := hide (rat_in n w h hi)
  have HH := hide h
  have HI := hide hi
  have hlt' : (ix fr n : Int) < (l.length : Int) := by omega
  have HX := hide hc
  clear h hi hc
  go_enter Tryz.func99, Tryz.ntmps99
  go_wp2_with (go_at_call 106; refine (unhide HR).mono ?_; rintro e w1 ⟨rfl, hb1⟩; have hA := (unhide HH).grow hb1; have HB1 := hide hb1; have c1 := hA.cell1; obtain ⟨q, hq, hrep⟩ := hA.at (unhide HI); have q0 := hq.c0; rw [hrep.cnt, unhide HX] at q0; have q0' : w1.cell? ⟨g, ix fr n * 4, none⟩ = some (.int .i64 5000) := q0; clear hA hb1 hq hrep q0)
  go_ret
  exact ⟨rfl, unhide HB1⟩
set_option maxHeartbeats 1000000 in
set_option maxRecDepth 20000 in
theorem rhold_ok (n : Int) (w : World) (h : RefAt w r g fr l) (c : Nat) (gn : Int) (hs : sec fr l n = some (c + 1, gn)) (h5 : c + 1 ≠ 5000) :
    Calls Tryz.prog 99 #[.pointer (some ⟨r, 0, none⟩), .int .i64 n] w fun e w' => e = .returned (.int .i64 0) ∧ RefAt w' r g fr (upd fr l n (some (c + 2, gn))) ∧ Moves [g] w w' := by
  have hi := sec_some hs
  have hlt := ix_lt hi
  have HR := hide (rat_in n w h hi)
  have HH := hide h
  have HI := hide hi
  have hlt' : (ix fr n : Int) < (l.length : Int) := by omega
  have HX := hide hs
  have hgo := h.ok.sec n
  rw [hs] at hgo
  have hgo2 : c + 1 ≤ 5000 ∧ I64 gn := hgo
  have HG := hide hgo2
  have H5 := hide h5
  obtain ⟨x, hx⟩ : ∃ x : Int, x = (c : Int) + 1 := ⟨_, rfl⟩
  have x0 : (x == 0) = false := beq_false_of_ne (by omega)
  have x5 : ¬ x = 5000 := by omega
  have n0 : decide ((ix fr n : Int) < 0) = false := decide_eq_false (by omega)
  have hw : IntKind.i64.wrap (x + 1) = x + 1 := by rw [IntKind.wrap_i64]; omega
  have HXX := hide hx
  clear h hi hs hgo hgo2 h5 hx
  go_enter Tryz.func99, Tryz.ntmps99
  go_wp2_with (go_at_call 106; refine (unhide HR).mono ?_; rintro e w1 ⟨rfl, hb1⟩; have hA := (unhide HH).grow hb1; have HA := hide hA; have HB1 := hide hb1; have c1 := hA.cell1; have hf := hA.free; obtain ⟨q, hq, hrep⟩ := hA.at (unhide HI); rw [unhide HX] at hrep; have q0 := hq.c0; rw [hrep.1, ← unhide HXX] at q0; have HQ := hide (And.intro hq hrep); clear hA hb1 hq hrep)
  go_ret
  rw [upd_in _ (unhide HI)]
  have hrep := (unhide HQ).2
  exact ⟨rfl, (unhide HA).set0 (c := x + 1) (s := some (c + 2, gn)) hlt (unhide HQ).1 ⟨by show x + 1 = ((c + 1 : Nat) : Int) + 1; have := unhide HXX; omega, hrep.2.1, hrep.2.2⟩ ⟨by have := (unhide HG).1; have := unhide H5; omega, (unhide HG).2⟩, (Moves.of_below _ (unhide HB1)).then (Moves.set _ _ _ _ (by simp))⟩
theorem rhold_any (n : Int) (w : World) (h : RefAt w r g fr l) (hn : I64 n) :
    Calls Tryz.prog 99 #[.pointer (some ⟨r, 0, none⟩), .int .i64 n] w fun e w' => e = .returned (.int .i64 (holdE fr l n)) ∧ RefAt w' r g fr (holdM fr l n) ∧ Moves [g] w w' := by
  unfold holdE holdM
  by_cases h5 : cntS (sec fr l n) = 5000
  · rw [if_pos h5, if_pos h5, if_neg (by omega)]
    have hi : In fr l n := by
      by_cases hi : In fr l n
      · exact hi
      · rw [sec_none hi] at h5; cases h5
    refine (rhold_many n w h hi h5).mono ?_
    rintro e w' ⟨rfl, hb⟩
    exact ⟨rfl, h.grow hb, Moves.of_below _ hb⟩
  · rw [if_neg h5, if_neg h5]
    by_cases h0 : cntS (sec fr l n) = 0
    · have e2 : holdS (sec fr l n) = sec fr l n := by
        cases hs : sec fr l n with
        | none => rfl
        | some x => obtain ⟨c, g⟩ := x; rw [hs] at h0; change c = 0 at h0; subst h0; rfl
      rw [if_pos h0, e2, upd_same]
      refine (rhold_free n hn w h h0).mono ?_
      rintro e w' ⟨rfl, hb⟩
      exact ⟨rfl, h.grow hb, Moves.of_below _ hb⟩
    · rw [if_neg h0]
      cases hs : sec fr l n with
      | none => rw [hs] at h0; exact absurd rfl h0
      | some x =>
        obtain ⟨c, gn⟩ := x
        rw [hs] at h0 h5
        change ¬ c = 0 at h0
        change ¬ c = 5000 at h5
        obtain ⟨k, rfl⟩ : ∃ k, c = k + 1 := ⟨c - 1, by omega⟩
        exact rhold_ok n w h k gn hs h5
end Go.Proofs.YtlmgmdnmghgkbaaGreatDoor.L5

/- The document's allocator: Drop. -/
namespace Go.Proofs.YtlmgmdnmghgkbaaGreatDoor.L5
open Go.ChangeShapes Go.WideShapes Go.ChangeAt Go.RowKit

variable {w w' : World} {r g fr : Nat} {l : List St}

set_option maxHeartbeats 1000000 in
set_option maxRecDepth 20000 in
theorem rdrop_free (n gen : Int) (hn : I64 n) (w : World) (h : RefAt w r g fr l) (hc : cntS (sec fr l n) = 0) :
    Calls Tryz.prog 98 #[.pointer (some ⟨r, 0, none⟩), .int .i64 n, .int .i64 gen] w fun e w' => e = .returned (.int .i64 51) ∧ Below w.heap.size w w' := by
  by_cases hi : In fr l n
  · have hlt := ix_lt hi
    have HR := hide (rat_in n w h hi)
    have HH := hide h
    have HI := hide hi
    have hlt' : (ix fr n : Int) < (l.length : Int) := by omega
    have HX := hide hc
    clear h hi hc hn
    go_enter Tryz.func98, Tryz.ntmps98
    go_wp2_with (go_at_call 106; refine (unhide HR).mono ?_; rintro e w1 ⟨rfl, hb1⟩; have hA := (unhide HH).grow hb1; have HB1 := hide hb1; have c1 := hA.cell1; obtain ⟨q, hq, hrep⟩ := hA.at (unhide HI); have q0 := hq.c0; rw [hrep.cnt, unhide HX] at q0; have q0' : w1.cell? ⟨g, ix fr n * 4, none⟩ = some (.int .i64 0) := q0; clear hA hb1 hq hrep q0)
    go_ret
    exact ⟨rfl, unhide HB1⟩
  · have HR := hide (rat_out n hn w h hi)
    clear h hi hn hc
    go_enter Tryz.func98, Tryz.ntmps98
    go_wp2_with (go_at_call 106; refine (unhide HR).mono ?_; rintro e w1 ⟨rfl, hb1⟩; have HB1 := hide hb1; clear hb1)
    go_ret
    exact ⟨rfl, unhide HB1⟩
set_option maxHeartbeats 1000000 in
set_option maxRecDepth 20000 in
theorem rdrop_more (n gen : Int) (w : World) (h : RefAt w r g fr l) (c : Nat) (gn : Int) (hs : sec fr l n = some (c + 2, gn)) :
    Calls Tryz.prog 98 #[.pointer (some ⟨r, 0, none⟩), .int .i64 n, .int .i64 gen] w fun e w' => e = .returned (.int .i64 0) ∧ RefAt w' r g fr (upd fr l n (some (c + 1, gn))) ∧ Moves [g] w w' := by
  have hi := sec_some hs
  have hlt := ix_lt hi
  have HR := hide (rat_in n w h hi)
  have HH := hide h
  have HI := hide hi
  have hlt' : (ix fr n : Int) < (l.length : Int) := by omega
  have HX := hide hs
  have hgo := h.ok.sec n
  rw [hs] at hgo
  have hgo2 : c + 2 ≤ 5000 ∧ I64 gn := hgo
  have HG := hide hgo2
  obtain ⟨x, hx⟩ : ∃ x : Int, x = ((c + 1 : Nat) : Int) + 1 := ⟨_, rfl⟩
  obtain ⟨y, hy⟩ : ∃ y : Int, y = x - 1 := ⟨_, rfl⟩
  have x0 : (x == 0) = false := beq_false_of_ne (by omega)
  have y0 : (y == 0) = false := beq_false_of_ne (by omega)
  have n0 : decide ((ix fr n : Int) < 0) = false := decide_eq_false (by omega)
  have hw : IntKind.i64.wrap (x - 1) = y := by rw [IntKind.wrap_i64]; omega
  have HXX := hide (And.intro hx hy)
  clear h hi hs hgo hgo2 hx hy
  go_enter Tryz.func98, Tryz.ntmps98
  go_wp2_with (go_at_call 106; refine (unhide HR).mono ?_; rintro e w1 ⟨rfl, hb1⟩; have hA := (unhide HH).grow hb1; have HA := hide hA; have HB1 := hide hb1; have c1 := hA.cell1; have hf := hA.free; obtain ⟨q, hq, hrep⟩ := hA.at (unhide HI); rw [unhide HX] at hrep; have q0 := hq.c0; rw [hrep.1, ← (unhide HXX).1] at q0; have hne : r ≠ g := hA.ne; have HQ := hide (And.intro hq hrep); clear hA hb1 hq hrep)
  go_ret
  rw [upd_in _ (unhide HI)]
  have hrep := (unhide HQ).2
  exact ⟨rfl, (unhide HA).set0 (c := y) (s := some (c + 1, gn)) hlt (unhide HQ).1 ⟨by show y = (c : Int) + 1; have := unhide HXX; omega, hrep.2.1, hrep.2.2⟩ ⟨by have := (unhide HG).1; omega, (unhide HG).2⟩, (Moves.of_below _ (unhide HB1)).then (Moves.set _ _ _ _ (by simp))⟩
set_option maxHeartbeats 2000000 in
set_option maxRecDepth 20000 in
theorem rdrop_last (n gen : Int) (hgen : I64 gen) (w : World) (h : RefAt w r g fr l) (gn : Int) (hs : sec fr l n = some (1, gn)) (s' : St) (hs' : s' = if gn = gen then none else some (0, gen)) :
    Calls Tryz.prog 98 #[.pointer (some ⟨r, 0, none⟩), .int .i64 n, .int .i64 gen] w fun e w' => e = .returned (.int .i64 0) ∧ RefAt w' r g fr (upd fr l n s') ∧ Moves [g] w w' := by
  have hi := sec_some hs
  have hlt := ix_lt hi
  have HR := hide (rat_in n w h hi)
  have HH := hide h
  have HI := hide hi
  have hlt' : (ix fr n : Int) < (l.length : Int) := by omega
  have HX := hide hs
  have HGEN := hide hgen
  have hrep' : Rep ⟨0, 0, gen, gn != gen⟩ s' ∧ goodS s' := by
    rw [hs']
    by_cases e : gn = gen
    · rw [if_pos e, e]
      exact ⟨⟨rfl, by simp⟩, trivial⟩
    · rw [if_neg e]
      exact ⟨⟨rfl, by simp [e], rfl⟩, by decide, hgen⟩
  have HREP := hide hrep'
  have n0 : decide ((ix fr n : Int) < 0) = false := decide_eq_false (by omega)
  clear h hi hs hgen hs' hrep'
  go_enter Tryz.func98, Tryz.ntmps98
  go_wp2_with (go_at_call 106; refine (unhide HR).mono ?_; rintro e w1 ⟨rfl, hb1⟩; have hA := (unhide HH).grow hb1; have HA := hide hA; have HB1 := hide hb1; have c1 := hA.cell1; have hf := hA.free; obtain ⟨q, hq, hrep⟩ := hA.at (unhide HI); rw [unhide HX] at hrep; have q0 := hq.c0; rw [hrep.1] at q0; have q0' : w1.cell? ⟨g, ix fr n * 4, none⟩ = some (.int .i64 1) := q0; have hne : r ≠ g := hA.ne; have HQ := hide (And.intro hq hrep); clear hA hb1 hq hrep q0)
  have hS := (unhide HA).set0 (c := 0) (s := none) hlt (unhide HQ).1 ⟨rfl, (unhide HQ).2.2.1⟩ trivial
  have hcs : CellsAt (w1.setCell ⟨g, ix fr n * 4, none⟩ (.int .i64 0)) g (ix fr n * 4) ⟨0, gn, q.f, q.wt⟩ := by
    refine ⟨World.cell?_setCell_same _ _ _ (unhide HQ).1.c0, ?_, ?_, ?_⟩
    · rw [World.cell?_setCell_other _ _ _ _ (addr_ne (by omega)), (unhide HQ).1.c1, (unhide HQ).2.2.2]
    · exact (World.cell?_setCell_other _ _ _ _ (addr_ne (by omega))).trans (unhide HQ).1.c2
    · exact (World.cell?_setCell_other _ _ _ _ (addr_ne (by omega))).trans (unhide HQ).1.c3
  have HM : Hid (Moves [g] w (w1.setCell ⟨g, ix fr n * 4, none⟩ (.int .i64 0)).drew) := (Moves.of_below _ (unhide HB1)).then ((Moves.set _ _ _ _ (by simp)).then (Moves.drew _ _))
  have hS2 := hS.grow ((Below.refl _ _).drew)
  have hlen2 : (l.set (ix fr n) none).length = l.length := List.length_set
  have d1 := hS.cell1
  rw [hlen2] at d1
  have df := hS.free
  have e0 : (w1.setCell ⟨g, ix fr n * 4, none⟩ (.int .i64 0)).cell? ⟨g, ix fr n * 4, none⟩ = some (.int .i64 0) := hcs.c0
  have e1 : (w1.setCell ⟨g, ix fr n * 4, none⟩ (.int .i64 0)).cell? ⟨g, ix fr n * 4 + 1, none⟩ = some (.int .i64 gn) := hcs.c1
  have e2 : (w1.setCell ⟨g, ix fr n * 4, none⟩ (.int .i64 0)).cell? ⟨g, ix fr n * 4 + 2, none⟩ = some (.int .i64 q.f) := hcs.c2
  have e3 : (w1.setCell ⟨g, ix fr n * 4, none⟩ (.int .i64 0)).cell? ⟨g, ix fr n * 4 + 3, none⟩ = some (.bool q.wt) := hcs.c3
  have HS2 := hide hS
  clear hS hS2 hcs hf c1 q0'
  generalize w1.setCell ⟨g, ix fr n * 4, none⟩ (.int .i64 0) = wa at *
  go_region
  all_goals
    go_wp2
    go_ret
    rw [upd_in _ (unhide HI)]
    have hp := (unhide HS2).put (i := ix fr n) (by rw [List.length_set]; exact hlt) (unhide HREP).1 (unhide HREP).2
    rw [List.set_set] at hp
    exact ⟨rfl, hp.grow (Below.refl _ _).drew, (unhide HM).then (put4_moves wa.drew g (ix fr n * 4) ⟨0, 0, gen, gn != gen⟩)⟩
theorem rdrop_any (n gen : Int) (w : World) (h : RefAt w r g fr l) (hn : I64 n) (hgen : I64 gen) :
    Calls Tryz.prog 98 #[.pointer (some ⟨r, 0, none⟩), .int .i64 n, .int .i64 gen] w fun e w' => e = .returned (.int .i64 (dropE fr l n)) ∧ RefAt w' r g fr (dropM fr l n gen) ∧ Moves [g] w w' := by
  unfold dropE dropM
  by_cases h0 : cntS (sec fr l n) = 0
  · have e2 : dropS gen (sec fr l n) = sec fr l n := by
      cases hs : sec fr l n with
      | none => rfl
      | some x => obtain ⟨c, g⟩ := x; rw [hs] at h0; change c = 0 at h0; subst h0; rfl
    rw [if_pos h0, e2, upd_same]
    refine (rdrop_free n gen hn w h h0).mono ?_
    rintro e w' ⟨rfl, hb⟩
    exact ⟨rfl, h.grow hb, Moves.of_below _ hb⟩
  · rw [if_neg h0]
    cases hs : sec fr l n with
    | none => rw [hs] at h0; exact absurd rfl h0
    | some x =>
      obtain ⟨c, gn⟩ := x
      rw [hs] at h0
      change ¬ c = 0 at h0
      match c, h0, hs with
      | 1, _, hs => exact rdrop_last n gen hgen w h gn hs _ rfl
      | c + 2, _, hs => exact rdrop_more n gen w h c gn hs
end Go.Proofs.YtlmgmdnmghgkbaaGreatDoor.L5

/- The document's allocator: Take, Free, Room, Waiting. -/
namespace Go.Proofs.YtlmgmdnmghgkbaaGreatDoor.L5
open Go.ChangeShapes Go.WideShapes Go.ChangeAt Go.RowKit

variable {w w' : World} {r g fr : Nat} {l : List St}

theorem Rep.free {q : Rc} {s : St} (h : Rep q s) : freeS s = ((q.c == 0) && !q.wt) := by
  match s, h with
  | none, h => rw [h.1, h.2]; rfl
  | some (0, g), h => rw [h.1, h.2.1]; rfl
  | some (c + 1, g), h =>
    rw [h.1, h.2.1, beq_false_of_ne (by omega)]
    rfl
theorem Rep.due {q : Rc} {s : St} (h : Rep q s) (gen : Int) : dueS gen s = (q.wt && decide (q.f ≤ gen)) := by
  match s, h with
  | none, h => rw [h.2]; rfl
  | some (0, g), h => rw [h.2.1, h.2.2]; simp [dueS]
  | some (c + 1, g), h => rw [h.2.1]; rfl
/-- of the first k -/
def upTo (p : St → Bool) (l : List St) (k : Nat) : Nat := (l.take k).countP p
theorem upTo_succ (p : St → Bool) (l : List St) (k : Nat) (hk : k < l.length) : upTo p l (k + 1) = upTo p l k + (if p l[k] = true then 1 else 0) := by
  unfold upTo
  rw [List.take_succ_eq_append_getElem hk, List.countP_append]
  simp [List.countP_cons]
theorem upTo_all (p : St → Bool) (l : List St) : upTo p l l.length = l.countP p := by unfold upTo; rw [List.take_length]
theorem upTo_le (p : St → Bool) (l : List St) (k : Nat) : upTo p l k ≤ l.length := by
  unfold upTo
  have := List.countP_le_length (p := p) (l := l.take k)
  have := List.length_take_le' k l
  omega

set_option maxHeartbeats 2000000 in
set_option maxRecDepth 20000 in
theorem rroom_any (w : World) (h : RefAt w r g fr l) :
    Calls Tryz.prog 62 #[.pointer (some ⟨r, 0, none⟩)] w fun e w' => e = .returned (.int .i64 (room l : Int)) ∧ w' = w := by
  have c1 := h.cell1
  have hlen : l.length ≤ 4096 := by have := h.ok.few; omega
  have HH := hide h
  clear h
  go_enter Tryz.func62, Tryz.ntmps62
  go_wp2_with fail
  go_loopw [3, 4] (fun v3 v4 wr => ∃ k : Nat, k ≤ l.length ∧ v4 = .int .i64 (k : Int) ∧ v3 = .int .i64 (upTo freeS l k : Int) ∧ wr = w) (fun _ v4 _ => l.length - (intOf v4).toNat)
  case atStart => exact ⟨0, Nat.zero_le _, rfl, rfl, rfl⟩
  case round =>
    obtain ⟨k, hk, rfl, rfl, rfl⟩ := hrel
    have hul := upTo_le freeS l k
    by_cases hlt : k < l.length
    · have hlt' : (k : Int) < (l.length : Int) := by omega
      obtain ⟨q, hq, hrep⟩ := (unhide HH).row k l[k] (List.getElem?_eq_getElem hlt)
      have q0 := hq.c0
      have q3 := hq.c3
      have hst := upTo_succ freeS l k hlt
      rw [hrep.free] at hst
      have HST := hide hst
      clear hq hrep hst
      by_cases hc : q.c = 0
      · rw [hc] at q0
        cases hwt : q.wt with
        | true =>
          rw [hwt] at q3
          go_wp2
          go_roundw
          case rel => exact ⟨k + 1, by omega, by go_num, by rw [unhide HST, hwt]; simp, trivial⟩
          case measure => simp [intOf]; omega
        | false =>
          rw [hwt] at q3
          go_wp2
          go_roundw
          case rel => exact ⟨k + 1, by omega, by go_num, by rw [unhide HST, hwt, hc]; go_num, trivial⟩
          case measure => simp [intOf]; omega
      · have hcb : (q.c == 0) = false := beq_false_of_ne hc
        go_wp2
        go_roundw
        case rel => exact ⟨k + 1, by omega, by go_num, by rw [unhide HST, hcb]; simp, trivial⟩
        case measure => simp [intOf]; omega
    · have hlt' : ¬ (k : Int) < (l.length : Int) := by omega
      have hkl : k = l.length := by omega
      subst hkl
      have e := upTo_all freeS l
      have HE := hide e
      clear e
      go_wp2
      go_ret
      rw [show room l = upTo freeS l l.length from (unhide HE).symm]
      exact ⟨rfl, rfl⟩
/-! Free -/
/-- the first k are freed -/
def fre (gen : Int) (l : List St) (k : Nat) : List St := (l.take k).map (freedS gen) ++ l.drop k
theorem fre_zero (gen : Int) (l : List St) : fre gen l 0 = l := by simp [fre]
theorem fre_all (gen : Int) (l : List St) : fre gen l l.length = freeM l gen := by simp [fre, freeM]
theorem fre_length (gen : Int) (l : List St) (k : Nat) (hk : k ≤ l.length) : (fre gen l k).length = l.length := by simp [fre]; omega
theorem fre_at (gen : Int) (l : List St) (k : Nat) (hk : k < l.length) : (fre gen l k)[k]? = some l[k] := by
  unfold fre
  have e : k - (List.map (freedS gen) (List.take k l)).length = 0 := by simp; omega
  rw [List.getElem?_append_right (by simp; omega), e, List.drop_eq_getElem_cons hk]
  rfl
theorem fre_succ (gen : Int) (l : List St) (k : Nat) (hk : k < l.length) : fre gen l (k + 1) = (fre gen l k).set k (freedS gen l[k]) := by
  unfold fre
  rw [List.take_succ_eq_append_getElem hk, List.map_append, List.set_append_right _ _ (by simp; omega)]
  have e : k - (List.map (freedS gen) (List.take k l)).length = 0 := by simp; omega
  rw [e, List.drop_eq_getElem_cons hk, List.set_cons_zero, List.append_assoc]
  rfl
set_option maxHeartbeats 4000000 in
set_option maxRecDepth 20000 in
theorem rfree_any (gen : Int) (w : World) (h : RefAt w r g fr l) :
    Calls Tryz.prog 105 #[.pointer (some ⟨r, 0, none⟩), .int .i64 gen] w fun e w' => e = .returned (.int .i64 (freeN l gen : Int)) ∧ RefAt w' r g fr (freeM l gen) ∧ Moves [g] w w' := by
  have hlen : l.length ≤ 4096 := by have := h.ok.few; omega
  have HH := hide h
  clear h
  go_enter Tryz.func105, Tryz.ntmps105
  go_wp2_with fail
  go_loopw [5, 6] (fun v5 v6 wr => ∃ k : Nat, k ≤ l.length ∧ v6 = .int .i64 (k : Int) ∧ v5 = .int .i64 (upTo (dueS gen) l k : Int) ∧ RefAt wr r g fr (fre gen l k) ∧ Moves [g] w wr) (fun _ v6 _ => l.length - (intOf v6).toNat)
  case atStart => exact ⟨0, Nat.zero_le _, rfl, rfl, by rw [fre_zero]; exact unhide HH, Moves.refl _ _⟩
  case round =>
    obtain ⟨k, hk, rfl, rfl, hR, hm⟩ := hrel
    have hul := upTo_le (dueS gen) l k
    have c1 := hR.cell1
    rw [fre_length gen l k hk] at c1
    by_cases hlt : k < l.length
    · have hlt' : (k : Int) < (l.length : Int) := by omega
      obtain ⟨q, hq, hrep⟩ := hR.row k l[k] (fre_at gen l k hlt)
      have q0 := hq.c0
      have q1 := hq.c1
      have q2 := hq.c2
      have q3 := hq.c3
      have hf := hR.free
      have hst := upTo_succ (dueS gen) l k hlt
      have hfs := fre_succ gen l k hlt
      have hdu := hrep.due gen
      have HST := hide (And.intro hst (And.intro hfs hdu))
      have HR := hide hR
      have HM := hide hm
      have hsame : dueS gen l[k] = false → RefAt wr r g fr (fre gen l (k + 1)) := by
        intro e
        rw [hfs, show freedS gen l[k] = l[k] by unfold freedS; rw [e]; rfl, set_same (fre_at gen l k hlt)]
        exact hR
      have HSAME := hide hsame
      clear hq hrep hst hfs hdu hR hm hsame
      cases hwt : q.wt with
      | false =>
        rw [hwt] at q3
        have HD : Hid (dueS gen l[k] = false) := by show dueS gen l[k] = false; rw [(unhide HST).2.2, hwt]; rfl
        go_wp2
        go_roundw
        case rel => exact ⟨k + 1, by omega, by go_num, by rw [(unhide HST).1, unhide HD]; simp, unhide HSAME (unhide HD), unhide HM⟩
        case measure => simp [intOf]; omega
      | true =>
        rw [hwt] at q3
        by_cases hle : q.f ≤ gen
        · have HD : Hid (dueS gen l[k] = true) := by show dueS gen l[k] = true; rw [(unhide HST).2.2, hwt]; simp [hle]
          go_wp2
          go_roundw
          case rel =>
            refine ⟨k + 1, by omega, by go_num, by rw [(unhide HST).1, unhide HD]; go_num, ?_, (unhide HM).then (put4_moves wr g (k * 4) ⟨0, 0, 0, false⟩)⟩
            rw [(unhide HST).2.1, show freedS gen l[k] = none by unfold freedS; rw [unhide HD]; rfl]
            exact (unhide HR).put (q := ⟨0, 0, 0, false⟩) (by rw [fre_length gen l k hk]; exact hlt) ⟨rfl, rfl⟩ trivial
          case measure => simp [intOf]; omega
        · have HD : Hid (dueS gen l[k] = false) := by show dueS gen l[k] = false; rw [(unhide HST).2.2, hwt]; simp; omega
          go_wp2
          go_roundw
          case rel => exact ⟨k + 1, by omega, by go_num, by rw [(unhide HST).1, unhide HD]; simp, unhide HSAME (unhide HD), unhide HM⟩
          case measure => simp [intOf]; omega
    · have hlt' : ¬ (k : Int) < (l.length : Int) := by omega
      have hkl : k = l.length := by omega
      subst hkl
      have HX := hide (And.intro hR hm)
      clear hR hm
      go_wp2
      go_ret
      have hX := unhide HX
      rw [fre_all] at hX
      rw [show freeN l gen = upTo (dueS gen) l l.length from (upTo_all _ _).symm]
      exact ⟨rfl, hX.1, hX.2⟩

/-! Take -/
set_option maxHeartbeats 4000000 in
set_option maxRecDepth 20000 in
theorem rtake_any (gen : Int) (hgen : I64 gen) (w : World) (h : RefAt w r g fr l) :
    Calls Tryz.prog 94 #[.pointer (some ⟨r, 0, none⟩), .int .i64 gen] w fun e w' => e = .returned (.tuple #[.int .i64 (takeN fr l), .int .i64 (takeE l)]) ∧ RefAt w' r g fr (takeM l gen) ∧ Moves [g] w w' := by
  have c0 := h.cell0
  have c1 := h.cell1
  have hf := h.free
  have hfew := h.ok.few
  have HH := hide h
  have HG := hide hgen
  have hne : (⟨r, 0, none⟩ : Addr) ≠ ⟨g, 0, none⟩ := fun e => h.ne (by injection e)
  have hrg : r ≠ g := h.ne
  clear h hgen
  go_enter Tryz.func94, Tryz.ntmps94
  go_wp2_with fail
  go_loopw [6] (fun v wr => ∃ k : Nat, k ≤ l.length ∧ v = .int .i64 (k : Int) ∧ wr = w ∧ ∀ j, j < k → l[j]? ≠ some none) (fun v _ => l.length - (intOf v).toNat)
  case atStart => exact ⟨0, Nat.zero_le _, rfl, rfl, fun j hj => absurd hj (Nat.not_lt_zero _)⟩
  case round =>
    obtain ⟨k, hk, rfl, rfl, hp⟩ := hrel
    have HP := hide hp
    clear hp
    by_cases hlt : k < l.length
    · have hlt' : (k : Int) < (l.length : Int) := by omega
      obtain ⟨q, hq, hrep⟩ := (unhide HH).row k l[k] (List.getElem?_eq_getElem hlt)
      have q0 := hq.c0
      have q1 := hq.c1
      have q2 := hq.c2
      have q3 := hq.c3
      have hfr := hrep.free
      have HF := hide hfr
      clear hq hrep hfr
      have next : Hid (freeS l[k] = false → ∀ j, j < k + 1 → l[j]? ≠ some none) := by
        intro e j hj
        by_cases ej : j = k
        · subst ej
          rw [List.getElem?_eq_getElem hlt]
          intro e2
          rw [Option.some.inj e2] at e
          cases e
        · exact unhide HP j (by omega)
      by_cases hc : q.c = 0
      · rw [hc] at q0
        cases hwt : q.wt with
        | true =>
          rw [hwt] at q3
          have HN : Hid (freeS l[k] = false) := by show freeS l[k] = false; rw [unhide HF, hwt]; simp
          go_wp2
          go_roundw
          case rel => exact ⟨k + 1, by omega, by go_num, trivial, unhide next (unhide HN)⟩
          case measure => simp [intOf]; omega
        | false =>
          rw [hwt] at q3
          have hat : l[k]? = some none := by
            rw [List.getElem?_eq_getElem hlt, (freeS_iff l[k]).1 (by rw [unhide HF, hwt, hc]; rfl)]
          have htk := take_some hat (unhide HP)
          have en : takeN fr l = (fr : Int) + (k : Int) := by unfold takeN; rw [htk]
          have ee : takeE l = 0 := by unfold takeE; rw [htk]
          have em : takeM l gen = l.set k (some (1, gen)) := by unfold takeM; rw [htk]
          have HE := hide (And.intro en (And.intro ee em))
          have hw : IntKind.i64.wrap ((fr : Int) + (k : Int)) = (fr : Int) + (k : Int) := by rw [IntKind.wrap_i64]; omega
          have HS := hide ((unhide HH).put (q := ⟨1, gen, 0, false⟩) (s := some (1, gen)) hlt ⟨rfl, rfl, rfl⟩ ⟨by decide, unhide HG⟩)
          have z0 := (unhide HS).cell0
          unfold put4 at z0
          clear hat htk en ee em next
          go_wp2
          go_ret2
          obtain ⟨en, ee, em⟩ := unhide HE
          rw [en, ee, em]
          exact ⟨rfl, unhide HS, put4_moves _ _ _ ⟨1, gen, 0, false⟩⟩
      · have hcb : (q.c == 0) = false := beq_false_of_ne hc
        have HN : Hid (freeS l[k] = false) := by show freeS l[k] = false; rw [unhide HF, hcb]; rfl
        go_wp2
        go_roundw
        case rel => exact ⟨k + 1, by omega, by go_num, trivial, unhide next (unhide HN)⟩
        case measure => simp [intOf]; omega
    · have hlt' : ¬ (k : Int) < (l.length : Int) := by omega
      have hkl : k = l.length := by omega
      subst hkl
      have htk := take_none (unhide HP)
      have en : takeN fr l = 0 := by unfold takeN; rw [htk]
      have ee : takeE l = 50 := by unfold takeE; rw [htk]
      have em : takeM l gen = l := by unfold takeM; rw [htk]
      have HE := hide (And.intro en (And.intro ee em))
      clear htk en ee em
      go_wp2
      go_ret2
      obtain ⟨en, ee, em⟩ := unhide HE
      rw [en, ee, em]
      exact ⟨rfl, unhide HH, Moves.refl _ _⟩
end Go.Proofs.YtlmgmdnmghgkbaaGreatDoor.L5

/- The document's heap in memory. -/
namespace Go.Proofs.YtlmgmdnmghgkbaaGreatDoor
open Go.ChangeShapes Go.WideShapes Go.ChangeAt Go.RowKit

/-- a block's kind -/
def Kd (w : World) (x : Nat) (t : TypeId) : Prop := ∃ cs, w.heap[x]? = some (.cells cs t (0, 0))
theorem Kd.one {w : World} {x : Nat} {t u : TypeId} (h1 : Kd w x t) (h2 : Kd w x u) : t = u := by
  obtain ⟨c1, h1⟩ := h1
  obtain ⟨c2, h2⟩ := h2
  rw [h1] at h2
  injection h2 with h2
  injection h2
theorem Ints.kd {w : World} {v : Value} {l : List Int} {g : Nat} (h : Ints w v l) (hv : v.ownBlock = some g) : Kd w g 3 := h.kind hv

/-- the document's heap in memory -/
structure RhAt (w : World) (q r : Nat) (h : Hp) (a g : Nat) (fr : List Nat) (kv : List Value) : Prop where
  blk : w.heap[q]? = some (.cells (.pointer (some ⟨r, 0, none⟩) :: .pointer (some ⟨a, 0, none⟩) :: .int .i64 h.gen :: kv).toArray 120 (0, 0))
  kl : kv.length = 4096
  kid : ∀ i v, kv[i]? = some v → Ints w v (h.kids i)
  al : L5.RefAt w a g 2 h.al
  dk : L3.IsRef w r h.dk fr
  gen : 0 ≤ h.gen ∧ h.gen ≤ 1152921504606846976
  len : 2 + h.al.length = h.dk.old.length
  tab : L4.Tab w
  pos : 0 < q ∧ 0 < a ∧ 0 < g ∧ ∀ x ∈ fr, 0 < x
def rfoot (q a g : Nat) (fr : List Nat) : List Nat := q :: a :: g :: fr

theorem ref_kinds {w : World} {r : Nat} {m : L3.Dk} {fr : List Nat} (h : L3.IsRef w r m fr) {x : Nat} (hx : x ∈ fr) : Kd w x 105 ∨ Kd w x 9 ∨ Kd w x 243 := by
  obtain ⟨ov, pv, h, rfl⟩ := h
  simp [L3.rfOf] at hx
  rcases hx with rfl | hx | hx
  · exact .inl ⟨_, h.blk⟩
  · exact .inr (.inl (L3.ownsRow_kind h.old hx))
  · exact .inr (.inr (L3.ownsRow_kind h.op hx))

variable {w w' : World} {q r : Nat} {h : Hp} {a g : Nat} {fr : List Nat} {kv : List Value}
theorem RhAt.kq (H : RhAt w q r h a g fr kv) : Kd w q 120 := ⟨_, H.blk⟩
theorem RhAt.ka (H : RhAt w q r h a g fr kv) : Kd w a 197 := ⟨_, H.al.blk⟩
theorem RhAt.kg (H : RhAt w q r h a g fr kv) : Kd w g 201 := H.al.kin
theorem RhAt.kinds (H : RhAt w q r h a g fr kv) : ∀ x ∈ rfoot q a g fr, ∃ t : TypeId, t ∈ [120, 197, 201, 105, 9, 243] ∧ Kd w x t := by
  intro x hx
  simp only [rfoot, List.mem_cons] at hx
  rcases hx with rfl | rfl | rfl | hx
  · exact ⟨120, by simp, H.kq⟩
  · exact ⟨197, by simp, H.ka⟩
  · exact ⟨201, by simp, H.kg⟩
  · rcases ref_kinds H.dk hx with h1 | h1 | h1
    · exact ⟨105, by simp, h1⟩
    · exact ⟨9, by simp, h1⟩
    · exact ⟨243, by simp, h1⟩
theorem RhAt.row (H : RhAt w q r h a g fr kv) {v : Value} {l : List Int} (hv : Ints w v l) {b : Nat} (hb : v.ownBlock = some b) : b ∉ rfoot q a g fr := by
  intro hx
  obtain ⟨t, ht, hk⟩ := H.kinds b hx
  have := hk.one (hv.kd hb)
  subst this
  exact absurd ht (by decide)
theorem RhAt.qlt (H : RhAt w q r h a g fr kv) : q < w.heap.size := (Array.getElem?_eq_some_iff.1 H.blk).1
theorem RhAt.lt (H : RhAt w q r h a g fr kv) : ∀ x ∈ rfoot q a g fr, x < w.heap.size := by
  intro x hx
  obtain ⟨t, _, cs, hk⟩ := H.kinds x hx
  exact (Array.getElem?_eq_some_iff.1 hk).1
theorem RhAt.zero (H : RhAt w q r h a g fr kv) : 0 ∉ rfoot q a g fr := by
  intro hx
  simp only [rfoot, List.mem_cons] at hx
  obtain ⟨h1, h2, h3, h4⟩ := H.pos
  rcases hx with e | e | e | e
  · omega
  · omega
  · omega
  · exact absurd (h4 0 e) (by omega)
theorem RhAt.qa (H : RhAt w q r h a g fr kv) : q ≠ a := fun e => by have := H.kq.one (e ▸ H.ka); exact absurd this (by decide)
theorem RhAt.qg (H : RhAt w q r h a g fr kv) : q ≠ g := fun e => by have := H.kq.one (e ▸ H.kg); exact absurd this (by decide)
theorem RhAt.qf (H : RhAt w q r h a g fr kv) : q ∉ fr := fun hx => by
  rcases ref_kinds H.dk hx with h1 | h1 | h1 <;> exact absurd (H.kq.one h1) (by decide)
theorem RhAt.af (H : RhAt w q r h a g fr kv) : a ∉ fr := fun hx => by
  rcases ref_kinds H.dk hx with h1 | h1 | h1 <;> exact absurd (H.ka.one h1) (by decide)
theorem RhAt.gf (H : RhAt w q r h a g fr kv) : g ∉ fr := fun hx => by
  rcases ref_kinds H.dk hx with h1 | h1 | h1 <;> exact absurd (H.kg.one h1) (by decide)

theorem RhAt.cell0 (H : RhAt w q r h a g fr kv) : w.cell? ⟨q, 0, none⟩ = some (.pointer (some ⟨r, 0, none⟩)) := by simp [World.cell?, H.blk]
theorem RhAt.cell1 (H : RhAt w q r h a g fr kv) : w.cell? ⟨q, 1, none⟩ = some (.pointer (some ⟨a, 0, none⟩)) := by simp [World.cell?, H.blk]
theorem RhAt.cell2 (H : RhAt w q r h a g fr kv) : w.cell? ⟨q, 2, none⟩ = some (.int .i64 h.gen) := by simp [World.cell?, H.blk]
theorem RhAt.cellK (H : RhAt w q r h a g fr kv) {i : Nat} {v : Value} (hv : kv[i]? = some v) : w.cell? ⟨q, 3 + i, none⟩ = some v := by
  have e : 3 + i = i + 1 + 1 + 1 := by omega
  simp [World.cell?, H.blk, e, hv]
theorem RhAt.free (H : RhAt w q r h a g fr kv) (i : Nat) : w.frozen? ⟨q, i, none⟩ = false := by simp [World.frozen?, H.blk]
theorem RhAt.kidAt (H : RhAt w q r h a g fr kv) {i : Nat} (hi : i < 4096) : ∃ v, kv[i]? = some v ∧ Ints w v (h.kids i) := by
  have : i < kv.length := by rw [H.kl]; exact hi
  exact ⟨_, List.getElem?_eq_getElem this, H.kid i _ (List.getElem?_eq_getElem this)⟩

/-- rows stay where what turned is no row -/
theorem RhAt.rows (H : RhAt w q r h a g fr kv) {fq : List Nat} (hm : Moves fq w w') (hr : ∀ x ∈ fq, x < w.heap.size → ¬ Kd w x 3) : ∀ i v, kv[i]? = some v → Ints w' v (h.kids i) := by
  intro i v hv
  have hI := H.kid i v hv
  exact hI.same (fun b hb => hm.block b (hI.lt b hb) (fun hx => hr b hx (hI.lt b hb) (hI.kd hb)))
theorem RhAt.keep {fq : List Nat} (H : RhAt w q r h a g fr kv) (hm : Moves fq w w') (hd : ∀ x ∈ fq, x ∉ rfoot q a g fr) (h0 : 0 ∉ fq) (hr : ∀ x ∈ fq, x < w.heap.size → ¬ Kd w x 3) : RhAt w' q r h a g fr kv := by
  have hn : ∀ x ∈ rfoot q a g fr, x ∉ fq := fun x hx hq => hd x hq hx
  exact ⟨(hm.block q H.qlt (hn q (by simp [rfoot]))).trans H.blk, H.kl, H.rows hm hr, H.al.keep hm (hn a (by simp [rfoot])) (hn g (by simp [rfoot])), H.dk.keep (mv35 hm) (fun x hx => hn x (by simp [rfoot, hx])), H.gen, H.len, tab_keep H.tab hm h0, H.pos⟩
theorem RhAt.grow (H : RhAt w q r h a g fr kv) (hb : Below w.heap.size w w') : RhAt w' q r h a g fr kv :=
  H.keep (L5.Moves.of_below [] hb) (fun _ hx => absurd hx List.not_mem_nil) List.not_mem_nil (fun _ hx => absurd hx List.not_mem_nil)
/-- no block of the heap's own is a row -/
theorem RhAt.noRow (H : RhAt w q r h a g fr kv) : ∀ x ∈ rfoot q a g fr, ¬ Kd w x 3 := by
  intro x hx h3
  obtain ⟨t, ht, hk⟩ := H.kinds x hx
  have := hk.one h3
  subst this
  exact absurd ht (by decide)
/-- the allocator has turned -/
theorem RhAt.alloc (H : RhAt w q r h a g fr kv) {l : List L5.St} (hm : Moves [g] w w') (ha : L5.RefAt w' a g 2 l) (hl : l.length = h.al.length) : RhAt w' q r { h with al := l } a g fr kv := by
  have h0 : 0 ∉ [g] := by have := H.pos.2.2.1; simp; omega
  exact ⟨(hm.block q H.qlt (by have := H.qg; simp; exact this)).trans H.blk, H.kl, H.rows hm (fun x hx _ => H.noRow x (by simp at hx; simp [rfoot, hx])), ha, H.dk.keep (mv35 hm) (fun x hx hq => H.gf (by simp at hq; rw [← hq]; exact hx)), H.gen, by show 2 + l.length = _; rw [hl]; exact H.len, tab_keep H.tab hm h0, H.pos⟩
/-- the disk has turned -/
theorem RhAt.disk (H : RhAt w q r h a g fr kv) {m : L3.Dk} (hm : L3.RTurned w w' r m fr) (hl : m.old.length = h.dk.old.length) : ∃ fr', RhAt w' q r { h with dk := m } a g fr' kv ∧ Moves fr w w' ∧ ∀ x ∈ fr', x ∈ fr ∨ w.heap.size ≤ x := by
  obtain ⟨fr', hd', hm', hf⟩ := hm
  have hm' := mv53 hm'
  have h0 : 0 ∉ fr := fun hx => absurd (H.pos.2.2.2 0 hx) (by omega)
  refine ⟨fr', ⟨(hm'.block q H.qlt H.qf).trans H.blk, H.kl, H.rows hm' (fun x hx _ => H.noRow x (by simp [rfoot, hx])), H.al.keep hm' H.af H.gf, hd', H.gen, by show _ = m.old.length; rw [hl]; exact H.len, tab_keep H.tab hm' h0, H.pos.1, H.pos.2.1, H.pos.2.2.1, fun x hx => ?_⟩, hm', hf⟩
  rcases hf x hx with h1 | h1
  · exact H.pos.2.2.2 x h1
  · have := H.qlt; omega
/-- a store of kids -/
theorem RhAt.setK (H : RhAt w q r h a g fr kv) {i : Nat} {v : Value} {l : List Int} (hv : Ints w v l) : RhAt (w.setCell ⟨q, 3 + i, none⟩ v) q r { h with kids := setK h.kids i l } a g fr (kv.set i v) := by
  have hm : Moves [q] w (w.setCell ⟨q, 3 + i, none⟩ v) := L5.Moves.set w q (3 + i) _ (by simp)
  have h0 : 0 ∉ [q] := by have := H.pos.1; simp; omega
  have hrw : ∀ (u : Value) (l : List Int), Ints w u l → Ints (w.setCell ⟨q, 3 + i, none⟩ v) u l := fun u l hu => hu.same (fun b hb => hm.block b (hu.lt b hb) (fun hx => H.noRow b (by simp at hx; simp [rfoot, hx]) (hu.kd hb)))
  refine ⟨?_, by rw [List.length_set]; exact H.kl, fun j u hu => ?_, H.al.keep hm (by have := H.qa; simp; exact fun e => this e.symm) (by have := H.qg; simp; exact fun e => this e.symm), H.dk.keep (mv35 hm) (fun x hx hq => H.qf (by simp at hq; rw [← hq]; exact hx)), H.gen, H.len, tab_keep H.tab hm h0, H.pos⟩
  · have e : 3 + i = i + 1 + 1 + 1 := by omega
    simp [World.setCell, Array.getElem?_modify, H.blk, e]
  · rw [List.getElem?_set] at hu
    unfold Go.Proofs.YtlmgmdnmghgkbaaGreatDoor.setK
    simp only
    split at hu
    · rename_i e
      split at hu
      · cases hu
        rw [if_pos e.symm]
        exact hrw _ _ hv
      · cases hu
    · rename_i e
      rw [if_neg (fun e' => e e'.symm)]
      exact hrw _ _ (H.kid j u hu)
/-- another generation -/
theorem RhAt.setG (H : RhAt w q r h a g fr kv) {G : Int} (hG : 0 ≤ G ∧ G ≤ 1152921504606846976) : RhAt (w.setCell ⟨q, 2, none⟩ (.int .i64 G)) q r { h with gen := G } a g fr kv := by
  have hm : Moves [q] w (w.setCell ⟨q, 2, none⟩ (.int .i64 G)) := L5.Moves.set w q 2 _ (by simp)
  have h0 : 0 ∉ [q] := by have := H.pos.1; simp; omega
  refine ⟨?_, H.kl, H.rows hm (fun x hx _ => H.noRow x (by simp at hx; simp [rfoot, hx])), H.al.keep hm (by have := H.qa; simp; exact fun e => this e.symm) (by have := H.qg; simp; exact fun e => this e.symm), H.dk.keep (mv35 hm) (fun x hx hq => H.qf (by simp at hq; rw [← hq]; exact hx)), hG, H.len, tab_keep H.tab hm h0, H.pos⟩
  simp [World.setCell, Array.getElem?_modify, H.blk]

def IsRh (w : World) (q : Nat) (h : Hp) (F : List Nat) : Prop := ∃ r a g fr kv, RhAt w q r h a g fr kv ∧ F = rfoot q a g fr
def RhTurned (w w' : World) (q : Nat) (h : Hp) (F : List Nat) : Prop := ∃ F', IsRh w' q h F' ∧ Moves F w w' ∧ ∀ x ∈ F', x ∈ F ∨ w.heap.size ≤ x
variable {F : List Nat}
theorem IsRh.lt (H : IsRh w q h F) : ∀ x ∈ F, x < w.heap.size := by
  obtain ⟨r, a, g, fr, kv, H, rfl⟩ := H
  exact H.lt
theorem IsRh.zero (H : IsRh w q h F) : 0 ∉ F := by
  obtain ⟨r, a, g, fr, kv, H, rfl⟩ := H
  exact H.zero
theorem IsRh.tab (H : IsRh w q h F) : L4.Tab w := by
  obtain ⟨r, a, g, fr, kv, H, rfl⟩ := H
  exact H.tab
theorem IsRh.grow (H : IsRh w q h F) (hb : Below w.heap.size w w') : IsRh w' q h F := by
  obtain ⟨r, a, g, fr, kv, H, rfl⟩ := H
  exact ⟨r, a, g, fr, kv, H.grow hb, rfl⟩
theorem IsRh.ints (H : IsRh w q h F) {v : Value} {l : List Int} (hv : Ints w v l) (hm : Moves F w w') : Ints w' v l := by
  obtain ⟨r, a, g, fr, kv, H, rfl⟩ := H
  exact hv.same (fun b hb => hm.block b (hv.lt b hb) (H.row hv hb))
theorem IsRh.stays (H : IsRh w q h F) (hb : Below w.heap.size w w') : RhTurned w w' q h F := ⟨F, H.grow hb, L5.Moves.of_below _ hb, fun _ hx => .inl hx⟩
theorem RhTurned.then {w1 w2 : World} {h2 : Hp} {F1 : List Nat} (hm : Moves F w w1) (hf : ∀ x ∈ F1, x ∈ F ∨ w.heap.size ≤ x) (k : RhTurned w1 w2 q h2 F1) : RhTurned w w2 q h2 F := by
  obtain ⟨F2, k1, k2, k3⟩ := k
  refine ⟨F2, k1, hm.trans k2 hf, fun x hx => ?_⟩
  rcases k3 x hx with h1 | h1
  · exact hf x h1
  · exact .inr (Nat.le_trans hm.size h1)
theorem RhAt.turnA (H : RhAt w q r h a g fr kv) {l : List L5.St} (hm : Moves [g] w w') (ha : L5.RefAt w' a g 2 l) (hl : l.length = h.al.length) : RhTurned w w' q { h with al := l } (rfoot q a g fr) :=
  ⟨_, ⟨r, a, g, fr, kv, H.alloc hm ha hl, rfl⟩, hm.mono (fun x hx => .inl (by simp at hx; simp [rfoot, hx])), fun _ hx => .inl hx⟩
theorem RhAt.turnD (H : RhAt w q r h a g fr kv) {m : L3.Dk} (hm : L3.RTurned w w' r m fr) (hl : m.old.length = h.dk.old.length) : RhTurned w w' q { h with dk := m } (rfoot q a g fr) := by
  obtain ⟨fr', h1, h2, h3⟩ := H.disk hm hl
  refine ⟨_, ⟨r, a, g, fr', kv, h1, rfl⟩, h2.mono (fun x hx => .inl (by simp [rfoot, hx])), fun x hx => ?_⟩
  simp only [rfoot, List.mem_cons] at hx ⊢
  rcases hx with h4 | h4 | h4 | h4
  · exact .inl (.inl h4)
  · exact .inl (.inr (.inl h4))
  · exact .inl (.inr (.inr (.inl h4)))
  · rcases h3 x h4 with h5 | h5
    · exact .inl (.inr (.inr (.inr h5)))
    · exact .inr h5

/-! beside the program's -/
theorem heap_kinds {w : World} {p d : Nat} {h : Hp} {c : Nat} {F : List Nat} (H : IsHeap w p d h c F) : ∀ x ∈ F, (∃ es cl, w.heap[x]? = some (.map es cl)) ∨ ∃ t : TypeId, t ∈ [114, 194, 184, 288] ∧ Kd w x t := by
  obtain ⟨a, b, kb, fd, kf, H, rfl⟩ := H
  intro x hx
  simp only [foot, List.mem_cons] at hx
  rcases hx with rfl | rfl | rfl | rfl | hx
  · exact .inr ⟨114, by simp, _, H.blk⟩
  · exact .inr ⟨194, by simp, _, H.al.blk⟩
  · exact .inl H.al.map.kind
  · exact .inl H.km.kind
  · rcases disk_kinds H.dk hx with h1 | h1 | h1
    · exact .inl h1
    · exact .inr ⟨184, by simp, h1⟩
    · exact .inr ⟨288, by simp, h1⟩
theorem heap_noRow {w : World} {p d : Nat} {h : Hp} {c : Nat} {F : List Nat} (H : IsHeap w p d h c F) : ∀ x ∈ F, ¬ Kd w x 3 := by
  intro x hx ⟨cs, h3⟩
  rcases heap_kinds H x hx with ⟨es, cl, h1⟩ | ⟨t, ht, hk⟩
  · rw [h3] at h1; cases h1
  · have := hk.one ⟨cs, h3⟩
    subst this
    exact absurd ht (by decide)
theorem apart {w : World} {p d : Nat} {h h' : Hp} {c : Nat} {F Fq : List Nat} (H : IsHeap w p d h c F) (R : IsRh w q h' Fq) : ∀ x ∈ F, x ∉ Fq := by
  obtain ⟨r, a, g, fr, kv, R, rfl⟩ := R
  intro x hx hq
  obtain ⟨u, hu, cs, hk⟩ := R.kinds x hq
  rcases heap_kinds H x hx with ⟨es, cl, h1⟩ | ⟨t, ht, hk2⟩
  · rw [hk] at h1; cases h1
  · have := hk2.one ⟨cs, hk⟩
    subst this
    simp only [List.mem_cons, List.not_mem_nil, or_false] at ht
    rcases ht with rfl | rfl | rfl | rfl <;> exact absurd hu (by decide)
/-- the document's heap stays while the program's turns -/
theorem IsRh.other {p d : Nat} {h' : Hp} {c : Nat} {Fp : List Nat} (R : IsRh w q h F) (H : IsHeap w p d h' c Fp) (hm : Moves Fp w w') : IsRh w' q h F := by
  have ha := apart H R
  obtain ⟨r, a, g, fr, kv, R, rfl⟩ := R
  exact ⟨r, a, g, fr, kv, R.keep hm ha H.zero (fun x hx _ => heap_noRow H x hx), rfl⟩
/-- and the other way -/
theorem IsHeap.other {p d : Nat} {h' : Hp} {c : Nat} {Fp : List Nat} (H : IsHeap w p d h' c Fp) (R : IsRh w q h F) (hm : Moves F w w') : IsHeap w' p d h' c Fp := by
  have ha := apart H R
  have hz := R.zero
  obtain ⟨r, a, g, fr, kv, R, rfl⟩ := R
  obtain ⟨a', b', kb, fd, kf, H, rfl⟩ := H
  refine ⟨a', b', kb, fd, kf, H.keep hm (fun x hx hq => ha x hq hx) hz (fun j hj => (H.kid j hj).same (fun v hv b hb => ?_)), rfl⟩
  have hI : Ints w v (h'.kids j) := by have := H.kid j hj; rw [hv] at this; exact this
  exact hm.block b (hI.lt b hb) (R.row hI hb)
end Go.Proofs.YtlmgmdnmghgkbaaGreatDoor

/- What the document's own reader answers, call by call: the same functions. -/
namespace Go.Proofs.YtlmgmdnmghgkbaaGreatDoor.L4
open Go.ChangeShapes Go.WideShapes Go.ChangeAt Go.RowKit

/-- the document's reader in memory -/
def Rm (w : World) (r : Nat) (L : ByteArray) (e : Nat) : Prop := w.heap[r]? = some (.cells #[.string L, .int .i64 (e : Int)] 296 (0, 0))
theorem Rm.cell0 {w : World} {r e : Nat} {L : ByteArray} (h : Rm w r L e) : w.cell? ⟨r, 0, none⟩ = some (.string L) := by
  unfold Rm at h
  simp [World.cell?, h]
theorem Rm.cell1 {w : World} {r e : Nat} {L : ByteArray} (h : Rm w r L e) : w.cell? ⟨r, 1, none⟩ = some (.int .i64 (e : Int)) := by
  unfold Rm at h
  simp [World.cell?, h]
theorem Rm.free {w : World} {r e : Nat} {L : ByteArray} (h : Rm w r L e) (i : Nat) : w.frozen? ⟨r, i, none⟩ = false := by
  unfold Rm at h
  simp [World.frozen?, h]
theorem Rm.lt {w : World} {r e : Nat} {L : ByteArray} (h : Rm w r L e) : r < w.heap.size := (Array.getElem?_eq_some_iff.1 h).1
theorem Rm.setErr {w : World} {r e : Nat} {L : ByteArray} (h : Rm w r L e) (e' : Nat) : Rm (w.setCell ⟨r, 1, none⟩ (.int .i64 (e' : Int))) r L e' := by
  unfold Rm at *
  simp [World.setCell, Array.getElem?_modify, h]
theorem Rm.setLeft {w : World} {r e : Nat} {L : ByteArray} (h : Rm w r L e) (L' : ByteArray) : Rm (w.setCell ⟨r, 0, none⟩ (.string L')) r L' e := by
  unfold Rm at *
  simp [World.setCell, Array.getElem?_modify, h]
def ToldM (w w' : World) (r : Nat) (L : ByteArray) (e : Nat) : Prop := w.grownBy w' (some r) ∧ Rm w' r L e
theorem ToldM.refl {w : World} {r e : Nat} {L : ByteArray} (h : Rm w r L e) : ToldM w w r L e := ⟨grown_refl _ _, h⟩
theorem ToldM.err {w : World} {r e : Nat} {L : ByteArray} (h : Rm w r L e) (e' : Nat) : ToldM w (w.setCell ⟨r, 1, none⟩ (.int .i64 (e' : Int))) r L e' := ⟨grown_set _ _ _ _, h.setErr e'⟩
theorem ToldM.left {w : World} {r e : Nat} {L : ByteArray} (h : Rm w r L e) (L' : ByteArray) : ToldM w (w.setCell ⟨r, 0, none⟩ (.string L')) r L' e := ⟨grown_set _ _ _ _, h.setLeft L'⟩
theorem ToldM.both {w : World} {r e : Nat} {L : ByteArray} (h : Rm w r L e) (e' : Nat) (L' : ByteArray) : ToldM w ((w.setCell ⟨r, 1, none⟩ (.int .i64 (e' : Int))).setCell ⟨r, 0, none⟩ (.string L')) r L' e' :=
  ⟨grown_trans (grown_set _ _ _ _) (grown_set _ _ _ _), (h.setErr e').setLeft L'⟩

/- Fixed -/
set_option maxRecDepth 10000 in
set_option maxHeartbeats 1000000 in
theorem refFixedR_any (r e : Nat) (L : ByteArray) (w : World) (hr : Rm w r L e) (hL : L.size ≤ 1000000) :
    Calls Tryz.prog 186 #[.pointer (some ⟨r, 0, none⟩)] w fun x w' => x = .returned (.int .u64 ((fixedR L e).1 : Int)) ∧ ToldM w w' r (fixedR L e).2.1 (fixedR L e).2.2 := by
  have h0 := hr.cell0
  have h1 := hr.cell1
  have f0 := hr.free 0
  have f1 := hr.free 1
  have HR := hide hr
  clear hr
  unfold fixedR
  by_cases he : e ≠ 0
  · rw [if_pos he]
    have hne : ((e : Int) == 0) = false := beq_eq_false_iff_ne.2 (by omega)
    have hne2 : ((e : Int) != 0) = true := bne_iff_ne.2 (by omega)
    clear he
    go_enter Tryz.func186, Tryz.ntmps186
    go_wp2
    go_ret
    exact ⟨rfl, .refl (unhide HR)⟩
  · obtain rfl : e = 0 := by omega
    rw [if_neg he]
    clear he
    by_cases hz : L.size < 8
    · rw [if_pos hz]
      go_enter Tryz.func186, Tryz.ntmps186
      go_wp2
      go_ret
      exact ⟨rfl, .err (unhide HR) 20⟩
    · rw [if_neg hz]
      go_enter Tryz.func186, Tryz.ntmps186
      go_wp2
      go_loop [3, 4] (fun t j => ∃ i : Nat, i ≤ 8 ∧ j = .int .i64 i ∧ t = .int .u64 (Pk.fixN ((bn L).take i) : Nat)) (fun _ j => 8 - (intOf j).toNat)
      case atStart => exact ⟨0, by omega, rfl, rfl⟩
      case round =>
        obtain ⟨i, hi, rfl, rfl⟩ := hrel
        by_cases hlt : i < 8
        · have his : i < L.size := by omega
          have hb : (L[i].toNat : Int) < 256 := by have := L[i].toNat_lt; omega
          have hn := fix_bound L i (by omega)
          have HS : Hid (Pk.fixN ((bn L).take (i + 1)) = Pk.fixN ((bn L).take i) * 256 + L[i].toNat) := by
            show _ = _
            rw [take_snoc_bn L i his, Pk.fixN_snoc]
          generalize Pk.fixN ((bn L).take i) = n at *
          have HE := hide (or_byte n L[i].toNat hn (by omega))
          go_wp2
          go_round
          case rel => exact ⟨i + 1, by omega, by go_num, by rw [unhide HS]; exact int_eq (unhide HE)⟩
          case measure => simp [intOf]; omega
        · obtain rfl : i = 8 := by omega
          go_wp2
          go_ret
          exact ⟨rfl, .left (unhide HR) _⟩

theorem Rm.below {w w' : World} {r e : Nat} {L : ByteArray} (h : Rm w r L e) (hb : Below w.heap.size w w') : Rm w' r L e := (hb.block r h.lt).trans h
theorem Rm.new (w : World) (s : ByteArray) : Rm (w.alloc (.cells #[.string s, .int .i64 0] 296)) w.heap.size s 0 := heap_alloc_new w _
end Go.Proofs.YtlmgmdnmghgkbaaGreatDoor.L4

/- What the document's Open does: the same. -/
namespace Go.Proofs.YtlmgmdnmghgkbaaGreatDoor.L4
open Go.ChangeShapes Go.WideShapes Go.ChangeAt Go.RowKit

theorem or_u32 (a b i : Nat) (ha : a < 2 ^ i) (hb : b * 2 ^ i < 4294967296) (hi : i ≤ 32) : bits .or .u32 (a : Int) ((b * 2 ^ i : Nat) : Int) = ((a + b * 2 ^ i : Nat) : Int) := by
  have h32 : 2 ^ i ≤ 2 ^ 32 := Nat.pow_le_pow_right (by decide) hi
  rw [u32_or_nat a _ (by omega) hb]
  have := Nat.two_pow_add_eq_or_of_lt ha b
  rw [Nat.or_comm, Nat.mul_comm b, ← this, Nat.add_comm]
theorem num_or (a b c d : Nat) (ha : a < 256) (hb : b < 256) (hc : c < 256) (hd : d < 256) :
    bits .or .u32 (bits .or .u32 (bits .or .u32 (a : Int) ((b : Int) * 256)) ((c : Int) * 65536)) ((d : Int) * 16777216) = (Blk.num4 a b c d : Nat) := by
  have e1 := or_u32 a b 8 (by omega) (by omega) (by omega)
  have e2 := or_u32 (a + b * 2 ^ 8) c 16 (by omega) (by omega) (by omega)
  have e3 := or_u32 (a + b * 2 ^ 8 + c * 2 ^ 16) d 24 (by omega) (by omega) (by omega)
  have f1 : (b : Int) * 256 = ((b * 2 ^ 8 : Nat) : Int) := by simp
  have f2 : (c : Int) * 65536 = ((c * 2 ^ 16 : Nat) : Int) := by simp
  have f3 : (d : Int) * 16777216 = ((d * 2 ^ 24 : Nat) : Int) := by simp
  rw [f1, f2, f3, e1, e2, e3]
  rfl
theorem step_zero {S : ByteArray} {n j : Nat} (hz : ∀ q (hq : q < S.size), 13 + n ≤ q → q < j → S[q].toNat = 0) {hj : j < S.size} (h0 : S[j].toNat = 0) : ∀ q (hq : q < S.size), 13 + n ≤ q → q < j + 1 → S[q].toNat = 0 := by
  intro q hq h5 h6
  by_cases e : q = j
  · subst e
    exact h0
  · exact hz q hq h5 (by omega)

set_option maxHeartbeats 400000 in
theorem ropen_size (S : ByteArray) (w : World) (h : ¬ S.size = 1024) :
    Calls Tryz.prog 145 #[.string S] w fun e w' => e = .returned (.tuple #[.agg #[.int .i64 0, .int .i64 0, .string ⟨#[]⟩], .int .i64 32]) ∧ Below w.heap.size w w' := by
  have h1 : ((S.size : Int) == 1024) = false := beq_eq_false_iff_ne.2 (by omega)
  have h2 : ((S.size : Int) != 1024) = true := bne_iff_ne.2 (by omega)
  clear h
  go_enter Tryz.func145, Tryz.ntmps145
  go_wp2
  refine bodyPost_ret (v := .tuple #[.agg #[.int .i64 0, .int .i64 0, .string ⟨#[]⟩], .int .i64 32]) ?_ rfl ⟨rfl, ?_⟩
  · rw [results_cell_tmp rfl]
    go_simp
  · exact (Below.refl _ _).alloc (Nat.le_refl _) _

theorem rfix_step {W w3 : World} (h : Res W w3) (L : ByteArray) (G : Nat) (h8 : 8 ≤ L.size) (hL : L.size ≤ 1000000) (hG : Pk.fixN ((bn L).take 8) = G) :
    Calls Tryz.prog 186 #[.pointer (some ⟨w3.heap.size, 0, none⟩)] (w3.alloc (.cells #[.string L, .int .i64 0] 296)) fun e w' => e = .returned (.int .u64 (G : Int)) ∧ Res W w' := by
  have t := refFixedR_any w3.heap.size 0 L _ (Rm.new w3 L) hL
  have e : fixedR L 0 = (G, L.extract 8 L.size, 0) := by
    unfold fixedR
    rw [if_neg (by simp), if_neg (by omega), hG]
  rw [e] at t
  refine t.mono ?_
  rintro x w' ⟨rfl, ht⟩
  have hA : Res W (w3.alloc (.cells #[.string L, .int .i64 0] 296)) := h.then ((Below.refl _ _).alloc (Nat.le_refl _) _)
  have hlt : W.heap.size < w3.heap.size := (Array.getElem?_eq_some_iff.1 h.2).1
  refine ⟨rfl, hA.1.grown ht.1 hA.1.size (fun k hk => by cases hk; omega), (ht.1.block _ (by simp; omega) (fun e => by have := Option.some.inj e; omega)).trans hA.2⟩

set_option maxRecDepth 10000 in
set_option maxHeartbeats 1000000 in
theorem ropen_sum (S : ByteArray) (w : World) (x0 x1 x2 x3 : Nat) (h : S.size = 1024) (h0 : (S[1020]'(by omega)).toNat = x0) (h1 : (S[1021]'(by omega)).toNat = x1) (h2 : (S[1022]'(by omega)).toNat = x2) (h3 : (S[1023]'(by omega)).toNat = x3)
    (l0 : x0 < 256) (l1 : x1 < 256) (l2 : x2 < 256) (l3 : x3 < 256) (c : Nat) (hc : Crc.sum (bn (S.extract 0 1020)) = c) (hne : ¬ c = Blk.num4 x0 x1 x2 x3) :
    Calls Tryz.prog 145 #[.string S] w fun e w' => e = .returned (.tuple #[.agg #[.int .i64 0, .int .i64 0, .string ⟨#[]⟩], .int .i64 40]) ∧ Below w.heap.size w w' := by
  have hs := fun w' => refSum_any (S.extract 0 1020) w' (by rw [ByteArray.size_extract]; unfold maxLen; omega)
  rw [hc] at hs
  have HS := hide hs
  have hn := num_or x0 x1 x2 x3 l0 l1 l2 l3
  have q0 : (x0 : Int) % 4294967296 = x0 := by omega
  have q1 : (x1 : Int) % 4294967296 = x1 := by omega
  have q2 : (x2 : Int) % 4294967296 = x2 := by omega
  have q3 : (x3 : Int) % 4294967296 = x3 := by omega
  have p1 : (x1 : Int) * 256 % 4294967296 = x1 * 256 := by omega
  have p2 : (x2 : Int) * 65536 % 4294967296 = x2 * 65536 := by omega
  have p3 : (x3 : Int) * 16777216 % 4294967296 = x3 * 16777216 := by omega
  generalize Blk.num4 x0 x1 x2 x3 = N at *
  have b1 : ((c : Int) == (N : Int)) = false := beq_eq_false_iff_ne.2 (by omega)
  have b2 : ((c : Int) != (N : Int)) = true := bne_iff_ne.2 (by omega)
  clear hs hc hne
  go_enter Tryz.func145, Tryz.ntmps145
  go_wp2_with fail
  have HX := Res.new w
  generalize w.alloc (.cells #[.int .i64 0, .int .i64 0, .string ⟨#[]⟩] 161) = w1 at *
  have HX' := hide HX
  clear HX
  go_quiet (fail)
  have HY := hide ((unhide HX').then (below_drewN (Below.refl _ w1) nq))
  clear HX'
  generalize w1.drewN nq = w2 at *
  obtain ⟨c0, c1, c2, cf⟩ := (unhide HY).cells
  go_wp2_with (go_at_call 134; refine (unhide HS _).mono ?_; rintro e w3 ⟨rfl, hw⟩; have hw := hw.symm; subst hw)
  refine bodyPost_ret (v := .tuple #[.agg #[.int .i64 0, .int .i64 0, .string ⟨#[]⟩], .int .i64 40]) ?_ rfl ⟨rfl, ?_⟩
  · rw [results_cell_tmp rfl]
    go_simp
  · exact (unhide HY).set _ _ _
set_option maxRecDepth 10000 in
set_option maxHeartbeats 2000000 in
theorem ropen_prefix (S : ByteArray) (w : World) (x0 x1 x2 x3 y3 y4 n G : Nat) (h : S.size = 1024) (h0 : (S[1020]'(by omega)).toNat = x0) (h1 : (S[1021]'(by omega)).toNat = x1) (h2 : (S[1022]'(by omega)).toNat = x2) (h3 : (S[1023]'(by omega)).toNat = x3)
    (l0 : x0 < 256) (l1 : x1 < 256) (l2 : x2 < 256) (l3 : x3 < 256) (hc : Crc.sum (bn (S.extract 0 1020)) = Blk.num4 x0 x1 x2 x3)
    (g3 : (S[3]'(by omega)).toNat = y3) (g4 : (S[4]'(by omega)).toNat = y4) (k3 : y3 < 256) (k4 : y4 < 256) (hn : y3 * 256 + y4 = n) (hG : Pk.fixN ((bn (S.extract 5 13)).take 8) = G) (A : ByteArray) (hA : S.extract 0 2 = A) (hp : ¬ A = ⟨#[67, 80]⟩) :
    Calls Tryz.prog 145 #[.string S] w fun e w' => e = .returned (.tuple #[.agg #[.int .i64 0, .int .i64 0, .string ⟨#[]⟩], .int .i64 21]) ∧ Below w.heap.size w w' := by
  have hs := fun w' => refSum_any (S.extract 0 1020) w' (by rw [ByteArray.size_extract]; unfold maxLen; omega)
  rw [hc] at hs
  have HS := hide hs
  have hnn := num_or x0 x1 x2 x3 l0 l1 l2 l3
  have q0 : (x0 : Int) % 4294967296 = x0 := by omega
  have q1 : (x1 : Int) % 4294967296 = x1 := by omega
  have q2 : (x2 : Int) % 4294967296 = x2 := by omega
  have q3 : (x3 : Int) % 4294967296 = x3 := by omega
  have p1 : (x1 : Int) * 256 % 4294967296 = x1 * 256 := by omega
  have p2 : (x2 : Int) * 65536 % 4294967296 = x2 * 65536 := by omega
  have p3 : (x3 : Int) * 16777216 % 4294967296 = x3 * 16777216 := by omega
  generalize Blk.num4 x0 x1 x2 x3 = N at *
  have ho := or_i64 y3 y4 k3 k4
  rw [hn] at ho
  have hv : (y3 : Int) * 256 + (y4 : Int) = (n : Int) := by omega
  have HG := hide (fun w' (hr : Res w w') => rfix_step hr (S.extract 5 13) G (by rw [ByteArray.size_extract]; omega) (by rw [ByteArray.size_extract]; omega) hG)
  clear hs hc hG hn
  have hq1 := str_ne hp
  have hq2 : (A.toList == [67, 80]) = false := by
    have e : (⟨#[67, 80]⟩ : ByteArray).toList = [67, 80] := by rw [ByteArray.toList_eq]
    rw [← e]
    exact hq1
  clear hp
  go_enter Tryz.func145, Tryz.ntmps145
  go_wp2_with fail
  have HX := Res.new w
  generalize w.alloc (.cells #[.int .i64 0, .int .i64 0, .string ⟨#[]⟩] 161) = w1 at *
  have HX' := hide HX
  clear HX
  go_quiet (fail)
  have HY := hide ((unhide HX').then (below_drewN (Below.refl _ w1) nq))
  clear HX'
  generalize w1.drewN nq = w2 at *
  go_wp2_with (go_at_call 134; refine (unhide HS _).mono ?_; rintro e w3 ⟨rfl, hw⟩; have hw := hw.symm; subst hw)
  go_quiet (fail)
  have HZ := hide ((unhide HY).then (below_drewN (Below.refl _ w2) nq))
  clear HY
  generalize w2.drewN nq = w3 at *
  clear hnn q0 q1 q2 q3 p1 p2 p3 hv ho h0 h1 h2 h3
  go_wp2_with (go_at_call 186; refine (unhide HG _ (unhide HZ)).mono ?_; rintro e w4 ⟨rfl, h4⟩; have H4 := hide h4; obtain ⟨c0, c1, c2, cf⟩ := h4.cells; clear h4)
  refine bodyPost_ret (v := .tuple #[.agg #[.int .i64 0, .int .i64 0, .string ⟨#[]⟩], .int .i64 21]) ?_ rfl ⟨rfl, ?_⟩
  · rw [results_cell_tmp rfl]
    go_simp
  · exact (unhide H4).set _ _ _

set_option maxRecDepth 10000 in
set_option maxHeartbeats 2000000 in
theorem ropen_long (S : ByteArray) (w : World) (x0 x1 x2 x3 y3 y4 n G : Nat) (h : S.size = 1024) (h0 : (S[1020]'(by omega)).toNat = x0) (h1 : (S[1021]'(by omega)).toNat = x1) (h2 : (S[1022]'(by omega)).toNat = x2) (h3 : (S[1023]'(by omega)).toNat = x3)
    (l0 : x0 < 256) (l1 : x1 < 256) (l2 : x2 < 256) (l3 : x3 < 256) (hc : Crc.sum (bn (S.extract 0 1020)) = Blk.num4 x0 x1 x2 x3)
    (g3 : (S[3]'(by omega)).toNat = y3) (g4 : (S[4]'(by omega)).toNat = y4) (k3 : y3 < 256) (k4 : y4 < 256) (hn : y3 * 256 + y4 = n) (hG : Pk.fixN ((bn (S.extract 5 13)).take 8) = G) (hA : S.extract 0 2 = ⟨#[67, 80]⟩) (hn7 : 1007 < n) :
    Calls Tryz.prog 145 #[.string S] w fun e w' => e = .returned (.tuple #[.agg #[.int .i64 0, .int .i64 0, .string ⟨#[]⟩], .int .i64 21]) ∧ Below w.heap.size w w' := by
  have hs := fun w' => refSum_any (S.extract 0 1020) w' (by rw [ByteArray.size_extract]; unfold maxLen; omega)
  rw [hc] at hs
  have HS := hide hs
  have hnn := num_or x0 x1 x2 x3 l0 l1 l2 l3
  have q0 : (x0 : Int) % 4294967296 = x0 := by omega
  have q1 : (x1 : Int) % 4294967296 = x1 := by omega
  have q2 : (x2 : Int) % 4294967296 = x2 := by omega
  have q3 : (x3 : Int) % 4294967296 = x3 := by omega
  have p1 : (x1 : Int) * 256 % 4294967296 = x1 * 256 := by omega
  have p2 : (x2 : Int) * 65536 % 4294967296 = x2 * 65536 := by omega
  have p3 : (x3 : Int) * 16777216 % 4294967296 = x3 * 16777216 := by omega
  generalize Blk.num4 x0 x1 x2 x3 = N at *
  have ho := or_i64 y3 y4 k3 k4
  rw [hn] at ho
  have hv : (y3 : Int) * 256 + (y4 : Int) = (n : Int) := by omega
  have HG := hide (fun w' (hr : Res w w') => rfix_step hr (S.extract 5 13) G (by rw [ByteArray.size_extract]; omega) (by rw [ByteArray.size_extract]; omega) hG)
  clear hs hc hG hn
  have i1 : (1007 : Int) < (n : Int) := by omega
  go_enter Tryz.func145, Tryz.ntmps145
  go_wp2_with fail
  have HX := Res.new w
  generalize w.alloc (.cells #[.int .i64 0, .int .i64 0, .string ⟨#[]⟩] 161) = w1 at *
  have HX' := hide HX
  clear HX
  go_quiet (fail)
  have HY := hide ((unhide HX').then (below_drewN (Below.refl _ w1) nq))
  clear HX'
  generalize w1.drewN nq = w2 at *
  go_wp2_with (go_at_call 134; refine (unhide HS _).mono ?_; rintro e w3 ⟨rfl, hw⟩; have hw := hw.symm; subst hw)
  go_quiet (fail)
  have HZ := hide ((unhide HY).then (below_drewN (Below.refl _ w2) nq))
  clear HY
  generalize w2.drewN nq = w3 at *
  clear hnn q0 q1 q2 q3 p1 p2 p3 hv ho h0 h1 h2 h3
  go_wp2_with (go_at_call 186; refine (unhide HG _ (unhide HZ)).mono ?_; rintro e w4 ⟨rfl, h4⟩; have H4 := hide h4; obtain ⟨c0, c1, c2, cf⟩ := h4.cells; clear h4)
  refine bodyPost_ret (v := .tuple #[.agg #[.int .i64 0, .int .i64 0, .string ⟨#[]⟩], .int .i64 21]) ?_ rfl ⟨rfl, ?_⟩
  · rw [results_cell_tmp rfl]
    go_simp
  · exact (unhide H4).set _ _ _

set_option maxRecDepth 10000 in
set_option maxHeartbeats 2000000 in
theorem ropen_gen (S : ByteArray) (w : World) (x0 x1 x2 x3 y3 y4 n G : Nat) (h : S.size = 1024) (h0 : (S[1020]'(by omega)).toNat = x0) (h1 : (S[1021]'(by omega)).toNat = x1) (h2 : (S[1022]'(by omega)).toNat = x2) (h3 : (S[1023]'(by omega)).toNat = x3)
    (l0 : x0 < 256) (l1 : x1 < 256) (l2 : x2 < 256) (l3 : x3 < 256) (hc : Crc.sum (bn (S.extract 0 1020)) = Blk.num4 x0 x1 x2 x3)
    (g3 : (S[3]'(by omega)).toNat = y3) (g4 : (S[4]'(by omega)).toNat = y4) (k3 : y3 < 256) (k4 : y4 < 256) (hn : y3 * 256 + y4 = n) (hG : Pk.fixN ((bn (S.extract 5 13)).take 8) = G) (hA : S.extract 0 2 = ⟨#[67, 80]⟩) (hn7 : n ≤ 1007) (hg : 1152921504606846976 < G) :
    Calls Tryz.prog 145 #[.string S] w fun e w' => e = .returned (.tuple #[.agg #[.int .i64 0, .int .i64 0, .string ⟨#[]⟩], .int .i64 21]) ∧ Below w.heap.size w w' := by
  have hs := fun w' => refSum_any (S.extract 0 1020) w' (by rw [ByteArray.size_extract]; unfold maxLen; omega)
  rw [hc] at hs
  have HS := hide hs
  have hnn := num_or x0 x1 x2 x3 l0 l1 l2 l3
  have q0 : (x0 : Int) % 4294967296 = x0 := by omega
  have q1 : (x1 : Int) % 4294967296 = x1 := by omega
  have q2 : (x2 : Int) % 4294967296 = x2 := by omega
  have q3 : (x3 : Int) % 4294967296 = x3 := by omega
  have p1 : (x1 : Int) * 256 % 4294967296 = x1 * 256 := by omega
  have p2 : (x2 : Int) * 65536 % 4294967296 = x2 * 65536 := by omega
  have p3 : (x3 : Int) * 16777216 % 4294967296 = x3 * 16777216 := by omega
  generalize Blk.num4 x0 x1 x2 x3 = N at *
  have ho := or_i64 y3 y4 k3 k4
  rw [hn] at ho
  have hv : (y3 : Int) * 256 + (y4 : Int) = (n : Int) := by omega
  have HG := hide (fun w' (hr : Res w w') => rfix_step hr (S.extract 5 13) G (by rw [ByteArray.size_extract]; omega) (by rw [ByteArray.size_extract]; omega) hG)
  clear hs hc hG hn
  have i1 : ¬ (1007 : Int) < (n : Int) := by omega
  have i2 : (1152921504606846976 : Int) < (G : Int) := by omega
  go_enter Tryz.func145, Tryz.ntmps145
  go_wp2_with fail
  have HX := Res.new w
  generalize w.alloc (.cells #[.int .i64 0, .int .i64 0, .string ⟨#[]⟩] 161) = w1 at *
  have HX' := hide HX
  clear HX
  go_quiet (fail)
  have HY := hide ((unhide HX').then (below_drewN (Below.refl _ w1) nq))
  clear HX'
  generalize w1.drewN nq = w2 at *
  go_wp2_with (go_at_call 134; refine (unhide HS _).mono ?_; rintro e w3 ⟨rfl, hw⟩; have hw := hw.symm; subst hw)
  go_quiet (fail)
  have HZ := hide ((unhide HY).then (below_drewN (Below.refl _ w2) nq))
  clear HY
  generalize w2.drewN nq = w3 at *
  clear hnn q0 q1 q2 q3 p1 p2 p3 hv ho h0 h1 h2 h3
  go_wp2_with (go_at_call 186; refine (unhide HG _ (unhide HZ)).mono ?_; rintro e w4 ⟨rfl, h4⟩; have H4 := hide h4; obtain ⟨c0, c1, c2, cf⟩ := h4.cells; clear h4)
  refine bodyPost_ret (v := .tuple #[.agg #[.int .i64 0, .int .i64 0, .string ⟨#[]⟩], .int .i64 21]) ?_ rfl ⟨rfl, ?_⟩
  · rw [results_cell_tmp rfl]
    go_simp
  · exact (unhide H4).set _ _ _

set_option maxRecDepth 10000 in
set_option maxHeartbeats 2000000 in
theorem ropen_loop (S : ByteArray) (w : World) (x0 x1 x2 x3 y3 y4 n G : Nat) (h : S.size = 1024) (h0 : (S[1020]'(by omega)).toNat = x0) (h1 : (S[1021]'(by omega)).toNat = x1) (h2 : (S[1022]'(by omega)).toNat = x2) (h3 : (S[1023]'(by omega)).toNat = x3)
    (l0 : x0 < 256) (l1 : x1 < 256) (l2 : x2 < 256) (l3 : x3 < 256) (hc : Crc.sum (bn (S.extract 0 1020)) = Blk.num4 x0 x1 x2 x3)
    (g3 : (S[3]'(by omega)).toNat = y3) (g4 : (S[4]'(by omega)).toNat = y4) (k3 : y3 < 256) (k4 : y4 < 256) (hn : y3 * 256 + y4 = n) (hG : Pk.fixN ((bn (S.extract 5 13)).take 8) = G) (y2 : Nat) (k2 : y2 < 256) (T : Int × Int × ByteArray × Nat) (g2 : (S[2]'(by omega)).toNat = y2) (hA : S.extract 0 2 = ⟨#[67, 80]⟩) (hn7 : n ≤ 1007) (hg : G ≤ 1152921504606846976)
    (hb : ∀ j (hj : j < S.size), 13 + n ≤ j → j < 1020 → 0 < S[j].toNat → T = (0, 0, ⟨#[]⟩, 21)) (hok : (∀ j (hj : j < S.size), 13 + n ≤ j → j < 1020 → S[j].toNat = 0) → T = ((y2 : Int), (G : Int), S.extract 13 (13 + n), 0)) :
    Calls Tryz.prog 145 #[.string S] w fun e w' => e = .returned (opened T) ∧ Below w.heap.size w w' := by
  have hs := fun w' => refSum_any (S.extract 0 1020) w' (by rw [ByteArray.size_extract]; unfold maxLen; omega)
  rw [hc] at hs
  have HS := hide hs
  have hnn := num_or x0 x1 x2 x3 l0 l1 l2 l3
  have q0 : (x0 : Int) % 4294967296 = x0 := by omega
  have q1 : (x1 : Int) % 4294967296 = x1 := by omega
  have q2 : (x2 : Int) % 4294967296 = x2 := by omega
  have q3 : (x3 : Int) % 4294967296 = x3 := by omega
  have p1 : (x1 : Int) * 256 % 4294967296 = x1 * 256 := by omega
  have p2 : (x2 : Int) * 65536 % 4294967296 = x2 * 65536 := by omega
  have p3 : (x3 : Int) * 16777216 % 4294967296 = x3 * 16777216 := by omega
  generalize Blk.num4 x0 x1 x2 x3 = N at *
  have ho := or_i64 y3 y4 k3 k4
  rw [hn] at ho
  have hv : (y3 : Int) * 256 + (y4 : Int) = (n : Int) := by omega
  have HG := hide (fun w' (hr : Res w w') => rfix_step hr (S.extract 5 13) G (by rw [ByteArray.size_extract]; omega) (by rw [ByteArray.size_extract]; omega) hG)
  clear hs hc hG hn
  have i1 : ¬ (1007 : Int) < (n : Int) := by omega
  have i2 : ¬ (1152921504606846976 : Int) < (G : Int) := by omega
  have HB := hide hb
  have HO := hide hok
  clear hb hok
  go_enter Tryz.func145, Tryz.ntmps145
  go_wp2_with fail
  have HX := Res.new w
  generalize w.alloc (.cells #[.int .i64 0, .int .i64 0, .string ⟨#[]⟩] 161) = w1 at *
  have HX' := hide HX
  clear HX
  go_quiet (fail)
  have HY := hide ((unhide HX').then (below_drewN (Below.refl _ w1) nq))
  clear HX'
  generalize w1.drewN nq = w2 at *
  go_wp2_with (go_at_call 134; refine (unhide HS _).mono ?_; rintro e w3 ⟨rfl, hw⟩; have hw := hw.symm; subst hw)
  go_quiet (fail)
  have HZ := hide ((unhide HY).then (below_drewN (Below.refl _ w2) nq))
  clear HY
  generalize w2.drewN nq = w3 at *
  clear hnn q0 q1 q2 q3 p1 p2 p3 hv ho h0 h1 h2 h3
  go_wp2_with (go_at_call 186; refine (unhide HG _ (unhide HZ)).mono ?_; rintro e w4 ⟨rfl, h4⟩; have H4 := hide h4; obtain ⟨c0, c1, c2, cf⟩ := h4.cells; clear h4)
  go_loop [8] (fun i => ∃ j : Nat, 13 + n ≤ j ∧ j ≤ 1020 ∧ i = .int .i64 j ∧ ∀ q (hq : q < S.size), 13 + n ≤ q → q < j → S[q].toNat = 0) (fun i => 1020 - (intOf i).toNat)
  case atStart => exact ⟨13 + n, Nat.le_refl _, by omega, by go_num, fun q _ h5 h6 => absurd h6 (by omega)⟩
  case round =>
    obtain ⟨j, hj1, hj2, rfl, hz⟩ := hrel
    have HQ := hide hz
    clear hz
    by_cases hlt : j < 1020
    · have hjs : j < S.size := by omega
      have hb256 : (S[j].toNat : Int) < 256 := by have := S[j].toNat_lt; omega
      by_cases h0 : 0 < S[j].toNat
      · have HE := hide (unhide HB j hjs hj1 hlt h0)
        have e1 : ((S[j].toNat : Int) == 0) = false := beq_eq_false_iff_ne.2 (by omega)
        have e2 : ((S[j].toNat : Int) != 0) = true := bne_iff_ne.2 (by omega)
        clear HB HO HQ
        go_wp2
        refine bodyPost_ret (v := opened T) ?_ rfl ⟨rfl, (unhide H4).set _ _ _⟩
        rw [unhide HE, results_cell_tmp rfl]
        go_simp
        rfl
      · have h0' : S[j].toNat = 0 := by omega
        have HE := hide (step_zero (unhide HQ) h0')
        clear h0 HB HO HQ
        go_wp2
        go_round
        case rel => exact ⟨j + 1, by omega, by omega, by go_num, unhide HE⟩
        case measure => simp [intOf]; omega
    · have hj : j = 1020 := by omega
      have HE := hide (unhide HO (fun q hq h5 h6 => unhide HQ q hq h5 (by omega)))
      subst hj
      clear HB HO HQ
      have i5 : IntKind.i64.wrap (G : Int) = (G : Int) := by rw [IntKind.wrap_i64]; omega
      have i6 : (13 : Int) + (n : Int) ≤ 1024 := by omega
      have i7 : (13 : Int) ≤ 13 + (n : Int) := by omega
      go_wp2_with fail
      go_region
      all_goals go_wp2
      all_goals refine bodyPost_ret (v := opened T) ?_ rfl ⟨rfl, ?_⟩
      · rw [unhide HE, results_cell_tmp rfl]
        go_simp
        rfl
      · exact ((unhide H4).set _ _ _).drew

end Go.Proofs.YtlmgmdnmghgkbaaGreatDoor.L4

/- What the document's Open does: the document's block, or the error, as one function. -/
namespace Go.Proofs.YtlmgmdnmghgkbaaGreatDoor.L4
open Go.ChangeShapes Go.WideShapes Go.ChangeAt Go.RowKit

theorem at_of (S : ByteArray) (h : S.size = 1024) (i : Nat) (hi : i < 1020) : (bn (S.extract 0 1020)).getD i 0 = (S[i]'(by omega)).toNat := by
  rw [bn_front, List.getD_eq_getElem?_getD, List.getElem?_take_of_lt hi, bn_at S i (by omega)]
  rfl
theorem gen_of (S : ByteArray) : Blk.genOf (bn (S.extract 0 1020)) = Pk.fixN ((bn (S.extract 5 13)).take 8) := by
  unfold Blk.genOf
  rw [bn_front, bn_extract, List.drop_take, List.take_take, List.take_take]
  rfl
theorem two_of (S : ByteArray) : (bn (S.extract 0 1020)).take 2 = [67, 80] ↔ S.extract 0 2 = ⟨#[67, 80]⟩ := by
  have e : (bn (S.extract 0 1020)).take 2 = bn (S.extract 0 2) := by rw [bn_front, bn_front, List.take_take]; rfl
  rw [e]
  constructor
  · intro hh
    exact bn_inj hh
  · intro hh
    rw [hh]
    rfl
theorem pay_of (S : ByteArray) (n : Nat) (hn : n ≤ 1007) : (S.extract 0 1020).extract 13 (13 + n) = S.extract 13 (13 + n) := by
  apply bn_inj
  rw [bn_extract, bn_front, bn_extract, List.drop_take, List.take_take, Nat.min_eq_left (by omega)]
theorem drop_of (S : ByteArray) (h : S.size = 1024) (m x : Nat) : x ∈ (bn (S.extract 0 1020)).drop m ↔ ∃ j, ∃ hj : j < S.size, m ≤ j ∧ j < 1020 ∧ S[j].toNat = x := by
  have hl : (bn (S.extract 0 1020)).length = 1020 := by rw [bn_length, ByteArray.size_extract]; omega
  constructor
  · intro hx
    obtain ⟨i, hi, rfl⟩ := List.getElem_of_mem hx
    rw [List.length_drop, hl] at hi
    refine ⟨m + i, by omega, by omega, by omega, ?_⟩
    rw [List.getElem_drop, ← at_of S h (m + i) (by omega), List.getD_eq_getElem?_getD, List.getElem?_eq_getElem (by omega)]
    rfl
  · rintro ⟨j, hj, h1, h2, rfl⟩
    rw [← at_of S h j h2, List.getD_eq_getElem?_getD, List.getElem?_eq_getElem (by omega)]
    refine List.mem_of_getElem? (i := j - m) ?_
    rw [List.getElem?_drop, show m + (j - m) = j by omega, List.getElem?_eq_getElem (by omega)]
    rfl

theorem ropen_any (S : ByteArray) (w : World) :
    Calls Tryz.prog 145 #[.string S] w fun e w' => e = .returned (opened (openR S)) ∧ Below w.heap.size w w' := by
  unfold openR
  by_cases h : S.size = 1024
  · rw [if_neg (fun hh => hh h)]
    have b : ∀ i (hi : i < S.size), S[i].toNat < 256 := fun i hi => S[i].toNat_lt
    have hd : (bn S).drop 1020 = [(S[1020]'(by omega)).toNat, (S[1021]'(by omega)).toNat, (S[1022]'(by omega)).toNat, (S[1023]'(by omega)).toNat] := by
      apply List.ext_getElem?
      intro i
      rw [List.getElem?_drop]
      by_cases hi : i < 4
      · rw [bn_at S (1020 + i) (by omega)]
        have e : i = 0 ∨ i = 1 ∨ i = 2 ∨ i = 3 := by omega
        rcases e with rfl | rfl | rfl | rfl <;> rfl
      · rw [List.getElem?_eq_none (by rw [bn_length]; omega), List.getElem?_eq_none (by simp; omega)]
    have hcl : Crc.sum ((bn S).take 1020) < 4294967296 := Crc.sum_lt _ (fun x hx => bn_lt S x (List.mem_of_mem_take hx))
    have hiff := Blk.num4_eq (b 1020 (by omega)) (b 1021 (by omega)) (b 1022 (by omega)) (b 1023 (by omega)) hcl
    by_cases hf : (bn S).drop 1020 = Blk.le4 (Crc.sum ((bn S).take 1020))
    · rw [if_neg (fun hh => hh hf)]
      rw [hd] at hf
      have hc := hiff.1 hf
      rw [← bn_front] at hc
      have hlen : Blk.lenOf (bn (S.extract 0 1020)) = (S[3]'(by omega)).toNat * 256 + (S[4]'(by omega)).toNat := by
        unfold Blk.lenOf
        rw [at_of S h 3 (by omega), at_of S h 4 (by omega)]
      have hk : (bn (S.extract 0 1020)).getD 2 0 = (S[2]'(by omega)).toNat := at_of S h 2 (by omega)
      have hge := gen_of S
      unfold blockR
      by_cases hp : S.extract 0 2 = ⟨#[67, 80]⟩
      · have hp' := (two_of S).2 hp
        by_cases hn : Blk.lenOf (bn (S.extract 0 1020)) ≤ 1007
        · by_cases hg : Blk.genOf (bn (S.extract 0 1020)) ≤ 1152921504606846976
          · refine ropen_loop S w _ _ _ _ _ _ (Blk.lenOf (bn (S.extract 0 1020))) (Blk.genOf (bn (S.extract 0 1020))) h rfl rfl rfl rfl (b _ _) (b _ _) (b _ _) (b _ _) hc rfl rfl (b _ _) (b _ _) hlen.symm hge.symm _ (b 2 (by omega)) _ rfl hp hn hg ?_ ?_
            · intro j hj h1 h2 h3
              rw [if_neg]
              intro hh
              have := hh.2.2.2 _ ((drop_of S h _ _).2 ⟨j, hj, h1, h2, rfl⟩)
              omega
            · intro hz
              rw [if_pos ⟨hp', hn, hg, fun x hx => by
                obtain ⟨j, hj, h1, h2, rfl⟩ := (drop_of S h _ _).1 hx
                exact hz j hj h1 h2⟩, hk, pay_of S _ hn]
          · rw [if_neg (fun hh => hg hh.2.2.1)]
            exact ropen_gen S w _ _ _ _ _ _ _ _ h rfl rfl rfl rfl (b _ _) (b _ _) (b _ _) (b _ _) hc rfl rfl (b _ _) (b _ _) hlen.symm hge.symm hp hn (Nat.lt_of_not_le hg)
        · rw [if_neg (fun hh => hn hh.2.1)]
          exact ropen_long S w _ _ _ _ _ _ _ _ h rfl rfl rfl rfl (b _ _) (b _ _) (b _ _) (b _ _) hc rfl rfl (b _ _) (b _ _) hlen.symm hge.symm hp (Nat.lt_of_not_le hn)
      · rw [if_neg (fun hh => hp ((two_of S).1 hh.1))]
        exact ropen_prefix S w _ _ _ _ _ _ _ _ h rfl rfl rfl rfl (b _ _) (b _ _) (b _ _) (b _ _) hc rfl rfl (b _ _) (b _ _) hlen.symm hge.symm _ rfl hp
    · rw [if_pos hf]
      rw [hd] at hf
      refine ropen_sum S w _ _ _ _ h rfl rfl rfl rfl (b _ _) (b _ _) (b _ _) (b _ _) _ rfl (fun hh => hf (hiff.2 ?_))
      rw [← bn_front]
      exact hh
  · rw [if_pos h]
    exact ropen_size S w h
end Go.Proofs.YtlmgmdnmghgkbaaGreatDoor.L4

/- Whether a node is right, as the document tells it. -/
namespace Go.Proofs.YtlmgmdnmghgkbaaGreatDoor.L6
open Go.ChangeShapes Go.WideShapes Go.ChangeAt Go.RowKit

theorem below_an (w : World) (o : Obj) (m : Nat) : Below w.heap.size w (World.drewN (w.alloc o) m) := below_drewN (below_alloc w o) m

set_option maxRecDepth 10000 in
set_option maxHeartbeats 8000000 in
theorem refRightI (ai ak : Option Addr) (ci ck : Nat) (its : List It) (w : World) (hr : Row Value.string w ai its) (hl : its.length ≤ 1000000) (hp : 0 < its.length) :
    Calls Tryz.prog 177 #[.agg #[.bool true, .slice ai its.length ci, .slice ak 0 ck]] w fun e w' => e = .returned (.bool (rise mayI none its)) ∧ Below w.heap.size w w' := by
  have e0 : ((its.length : Int) == 0) = false := beq_eq_false_iff_ne.2 (by omega)
  have hb0 := below_alloc w (.cells #[.bool true, .slice ai its.length ci, .slice ak 0 ck] 43)
  have HR := hide (hr.grow hb0)
  have HBW := hide hb0
  clear hr hb0
  go_enter Tryz.func177, Tryz.ntmps177
  go_wp2
  have q1 : (w.alloc (.cells #[.bool true, .slice ai its.length ci, .slice ak 0 ck] 43)).cell? ⟨w.heap.size, 1, none⟩ = some (.slice ai its.length ci) := by simp
  have q2 : (w.alloc (.cells #[.bool true, .slice ai its.length ci, .slice ak 0 ck] 43)).cell? ⟨w.heap.size, 2, none⟩ = some (.slice ak 0 ck) := by simp
  obtain ⟨p, hp'⟩ : ∃ y, y = w.heap.size := ⟨_, rfl⟩
  rw [← hp'] at q1 q2 ⊢
  clear hp'
  generalize w.alloc (.cells #[.bool true, .slice ai its.length ci, .slice ak 0 ck] 43) = w0 at *
  go_loopw [3] (fun t wr => ∃ k : Nat, k ≤ its.length ∧ t = .int .i64 k ∧ Upto mayI its k ∧ wr.cell? ⟨p, 1, none⟩ = some (.slice ai its.length ci) ∧ wr.cell? ⟨p, 2, none⟩ = some (.slice ak 0 ck) ∧ Below w0.heap.size w0 wr ∧ Below w.heap.size w wr) (fun t _ => its.length - (intOf t).toNat)
  case atStart => exact ⟨0, Nat.zero_le _, rfl, Upto.start _ _, q1, q2, Below.refl _ _, unhide HBW⟩
  case round =>
    obtain ⟨k, hk, rfl, hu, q1, q2, hbel0, hbel⟩ := hrel
    have HU := hide hu
    have HBel := hide hbel
    have HBel0 := hide hbel0
    clear hu hbel hbel0
    by_cases hlt : k < its.length
    · obtain ⟨b, off, rfl, hr⟩ := (unhide HR).at hlt
      obtain ⟨⟨key, val⟩, hx⟩ := get_some hlt
      have c0 := cell_keep_of (unhide HBel0) (hr k _ hx).1
      have c1 := cell_keep_of (unhide HBel0) (hr k _ hx).2
      simp only at c0 c1
      have HX := hide hx
      have HROW := hide hr
      clear hx hr HR
      by_cases k0 : 0 < key.size
      · have f0 := full_of' k0
        by_cases k1 : key.size ≤ 272
        · have f1 : decide ((272 : Int) < (key.size : Int)) = false := decide_eq_false (by omega)
          by_cases k2 : val.size ≤ 160
          · have f2 : decide ((160 : Int) < (val.size : Int)) = false := decide_eq_false (by omega)
            have HMX := hide (show mayI (key, val) = true by simp [mayI, k0, k1, k2])
            by_cases h0 : k = 0
            · subst h0
              rw [Nat.zero_mul, Nat.add_zero] at c0 c1
              go_wp2_with fail
              have z0 : (wr.alloc (.cells #[.string key, .string val] 126)).cell? ⟨wr.heap.size, 0, none⟩ = some (.string key) := by simp
              have z1 : (wr.alloc (.cells #[.string key, .string val] 126)).cell? ⟨wr.heap.size, 1, none⟩ = some (.string val) := by simp
              have r1 := cell_keep q1 (below_alloc wr (.cells #[.string key, .string val] 126))
              have r2 := cell_keep q2 (below_alloc wr (.cells #[.string key, .string val] 126))
              have HB2 : Hid (∀ m, (World.drewN (wr.alloc (.cells #[.string key, .string val] 126)) m).cell? ⟨p, 1, none⟩ = some (.slice (some ⟨b, off, none⟩) its.length ci) ∧ (World.drewN (wr.alloc (.cells #[.string key, .string val] 126)) m).cell? ⟨p, 2, none⟩ = some (.slice ak 0 ck) ∧ Below w0.heap.size w0 (World.drewN (wr.alloc (.cells #[.string key, .string val] 126)) m) ∧ Below w.heap.size w (World.drewN (wr.alloc (.cells #[.string key, .string val] 126)) m)) := fun m => ⟨cell_keep q1 (below_an wr _ m), cell_keep q2 (below_an wr _ m), below_then (unhide HBel0) (below_an wr _ m), below_then (unhide HBel) (below_an wr _ m)⟩
              obtain ⟨p2, hp2⟩ : ∃ y, y = wr.heap.size := ⟨_, rfl⟩
              rw [← hp2] at z0 z1 ⊢
              clear hp2 c0 c1 q1 q2
              generalize wr.alloc (.cells #[.string key, .string val] 126) = wa at *
              go_quiet (fail)
              go_wp2
              go_roundw
              case rel => exact ⟨1, by omega, by go_num, (unhide HU).first (unhide HX) (unhide HMX), unhide HB2 _⟩
              case measure => simp [intOf]; omega
            · obtain ⟨j, hj⟩ : ∃ j, j + 1 = k := ⟨k - 1, by omega⟩
              have v0 : 0 < k := by omega
              have v0' : decide ((0 : Int) < (k : Int)) = true := decide_eq_true (by omega)
              have v1 : (k : Int) - 1 = (j : Int) := by omega
              have v2 : IntKind.i64.wrap (j : Int) = (j : Int) := by rw [IntKind.wrap_i64]; omega
              have v3 : j < its.length := by omega
              have v4 : (j : Int) < (its.length : Int) := by omega
              have HJ := hide hj
              clear h0 hj
              obtain ⟨⟨ky, vy⟩, hy⟩ := get_some v3
              have d0 := cell_keep_of (unhide HBel0) ((unhide HROW) j _ hy).1
              simp only at d0
              have HY := hide hy
              clear hy
              by_cases hls : less ky key = true
              · have HLS := hide hls
                have hls' : Op.bytesLess ky.toList key.toList = true := hls
                clear hls
                go_wp2_with fail
                have z0 : (wr.alloc (.cells #[.string key, .string val] 126)).cell? ⟨wr.heap.size, 0, none⟩ = some (.string key) := by simp
                have z1 : (wr.alloc (.cells #[.string key, .string val] 126)).cell? ⟨wr.heap.size, 1, none⟩ = some (.string val) := by simp
                have r1 := cell_keep q1 (below_alloc wr (.cells #[.string key, .string val] 126))
                have r2 := cell_keep q2 (below_alloc wr (.cells #[.string key, .string val] 126))
                have d0 := cell_keep d0 (below_alloc wr (.cells #[.string key, .string val] 126))
                have HB2 : Hid (∀ m, (World.drewN (wr.alloc (.cells #[.string key, .string val] 126)) m).cell? ⟨p, 1, none⟩ = some (.slice (some ⟨b, off, none⟩) its.length ci) ∧ (World.drewN (wr.alloc (.cells #[.string key, .string val] 126)) m).cell? ⟨p, 2, none⟩ = some (.slice ak 0 ck) ∧ Below w0.heap.size w0 (World.drewN (wr.alloc (.cells #[.string key, .string val] 126)) m) ∧ Below w.heap.size w (World.drewN (wr.alloc (.cells #[.string key, .string val] 126)) m)) := fun m => ⟨cell_keep q1 (below_an wr _ m), cell_keep q2 (below_an wr _ m), below_then (unhide HBel0) (below_an wr _ m), below_then (unhide HBel) (below_an wr _ m)⟩
                obtain ⟨p2, hp2⟩ : ∃ y, y = wr.heap.size := ⟨_, rfl⟩
                rw [← hp2] at z0 z1 ⊢
                clear hp2 c0 c1 q1 q2
                generalize wr.alloc (.cells #[.string key, .string val] 126) = wa at *
                go_quiet (fail)
                go_wp2
                go_roundw
                case rel =>
                  have hj := unhide HJ
                  subst hj
                  exact ⟨j + 2, by omega, by go_num, (unhide HU).next (unhide HX) (unhide HY) (unhide HMX) (unhide HLS), unhide HB2 _⟩
                case measure => simp [intOf]; omega
              · have hls : less ky key = false := by simpa using hls
                have HN : Hid (rise mayI none its = false) := by
                  show _ = _
                  have hj := unhide HJ
                  subst hj
                  exact (unhide HU).falls (unhide HX) (unhide HY) hls
                have hls' : Op.bytesLess ky.toList key.toList = false := hls
                clear hls
                go_wp2_with fail
                have z0 : (wr.alloc (.cells #[.string key, .string val] 126)).cell? ⟨wr.heap.size, 0, none⟩ = some (.string key) := by simp
                have z1 : (wr.alloc (.cells #[.string key, .string val] 126)).cell? ⟨wr.heap.size, 1, none⟩ = some (.string val) := by simp
                have r1 := cell_keep q1 (below_alloc wr (.cells #[.string key, .string val] 126))
                have r2 := cell_keep q2 (below_alloc wr (.cells #[.string key, .string val] 126))
                have d0 := cell_keep d0 (below_alloc wr (.cells #[.string key, .string val] 126))
                have HB2 : Hid (∀ m, (World.drewN (wr.alloc (.cells #[.string key, .string val] 126)) m).cell? ⟨p, 1, none⟩ = some (.slice (some ⟨b, off, none⟩) its.length ci) ∧ (World.drewN (wr.alloc (.cells #[.string key, .string val] 126)) m).cell? ⟨p, 2, none⟩ = some (.slice ak 0 ck) ∧ Below w0.heap.size w0 (World.drewN (wr.alloc (.cells #[.string key, .string val] 126)) m) ∧ Below w.heap.size w (World.drewN (wr.alloc (.cells #[.string key, .string val] 126)) m)) := fun m => ⟨cell_keep q1 (below_an wr _ m), cell_keep q2 (below_an wr _ m), below_then (unhide HBel0) (below_an wr _ m), below_then (unhide HBel) (below_an wr _ m)⟩
                obtain ⟨p2, hp2⟩ : ∃ y, y = wr.heap.size := ⟨_, rfl⟩
                rw [← hp2] at z0 z1 ⊢
                clear hp2 c0 c1 q1 q2
                generalize wr.alloc (.cells #[.string key, .string val] 126) = wa at *
                go_quiet (fail)
                go_wp2
                go_ret
                exact ⟨ret_bool (unhide HN).symm, (unhide HB2 _).2.2.2⟩
          · have f2 : decide ((160 : Int) < (val.size : Int)) = true := decide_eq_true (by omega)
            have HN := hide ((unhide HU).bad (unhide HX) (show mayI (key, val) = false by simp [mayI, k2]))
            go_wp2_with fail
            have z0 : (wr.alloc (.cells #[.string key, .string val] 126)).cell? ⟨wr.heap.size, 0, none⟩ = some (.string key) := by simp
            have z1 : (wr.alloc (.cells #[.string key, .string val] 126)).cell? ⟨wr.heap.size, 1, none⟩ = some (.string val) := by simp
            have r1 := cell_keep q1 (below_alloc wr (.cells #[.string key, .string val] 126))
            have r2 := cell_keep q2 (below_alloc wr (.cells #[.string key, .string val] 126))
            have HB2 : Hid (∀ m, (World.drewN (wr.alloc (.cells #[.string key, .string val] 126)) m).cell? ⟨p, 1, none⟩ = some (.slice (some ⟨b, off, none⟩) its.length ci) ∧ (World.drewN (wr.alloc (.cells #[.string key, .string val] 126)) m).cell? ⟨p, 2, none⟩ = some (.slice ak 0 ck) ∧ Below w0.heap.size w0 (World.drewN (wr.alloc (.cells #[.string key, .string val] 126)) m) ∧ Below w.heap.size w (World.drewN (wr.alloc (.cells #[.string key, .string val] 126)) m)) := fun m => ⟨cell_keep q1 (below_an wr _ m), cell_keep q2 (below_an wr _ m), below_then (unhide HBel0) (below_an wr _ m), below_then (unhide HBel) (below_an wr _ m)⟩
            obtain ⟨p2, hp2⟩ : ∃ y, y = wr.heap.size := ⟨_, rfl⟩
            rw [← hp2] at z0 z1 ⊢
            clear hp2 c0 c1 q1 q2
            generalize wr.alloc (.cells #[.string key, .string val] 126) = wa at *
            go_quiet (fail)
            go_wp2
            go_ret
            exact ⟨ret_bool (unhide HN).symm, (unhide HB2 _).2.2.2⟩
        · have f1 : decide ((272 : Int) < (key.size : Int)) = true := decide_eq_true (by omega)
          have HN := hide ((unhide HU).bad (unhide HX) (show mayI (key, val) = false by simp [mayI, k1]))
          go_wp2_with fail
          have z0 : (wr.alloc (.cells #[.string key, .string val] 126)).cell? ⟨wr.heap.size, 0, none⟩ = some (.string key) := by simp
          have z1 : (wr.alloc (.cells #[.string key, .string val] 126)).cell? ⟨wr.heap.size, 1, none⟩ = some (.string val) := by simp
          have r1 := cell_keep q1 (below_alloc wr (.cells #[.string key, .string val] 126))
          have r2 := cell_keep q2 (below_alloc wr (.cells #[.string key, .string val] 126))
          have HB2 : Hid (∀ m, (World.drewN (wr.alloc (.cells #[.string key, .string val] 126)) m).cell? ⟨p, 1, none⟩ = some (.slice (some ⟨b, off, none⟩) its.length ci) ∧ (World.drewN (wr.alloc (.cells #[.string key, .string val] 126)) m).cell? ⟨p, 2, none⟩ = some (.slice ak 0 ck) ∧ Below w0.heap.size w0 (World.drewN (wr.alloc (.cells #[.string key, .string val] 126)) m) ∧ Below w.heap.size w (World.drewN (wr.alloc (.cells #[.string key, .string val] 126)) m)) := fun m => ⟨cell_keep q1 (below_an wr _ m), cell_keep q2 (below_an wr _ m), below_then (unhide HBel0) (below_an wr _ m), below_then (unhide HBel) (below_an wr _ m)⟩
          obtain ⟨p2, hp2⟩ : ∃ y, y = wr.heap.size := ⟨_, rfl⟩
          rw [← hp2] at z0 z1 ⊢
          clear hp2 c0 c1 q1 q2
          generalize wr.alloc (.cells #[.string key, .string val] 126) = wa at *
          go_quiet (fail)
          go_wp2
          go_ret
          exact ⟨ret_bool (unhide HN).symm, (unhide HB2 _).2.2.2⟩
      · have f0 := empty_of (s := key) (by omega)
        have HN := hide ((unhide HU).bad (unhide HX) (show mayI (key, val) = false by simp [mayI, k0]))
        go_wp2_with fail
        have z0 : (wr.alloc (.cells #[.string key, .string val] 126)).cell? ⟨wr.heap.size, 0, none⟩ = some (.string key) := by simp
        have z1 : (wr.alloc (.cells #[.string key, .string val] 126)).cell? ⟨wr.heap.size, 1, none⟩ = some (.string val) := by simp
        have r1 := cell_keep q1 (below_alloc wr (.cells #[.string key, .string val] 126))
        have r2 := cell_keep q2 (below_alloc wr (.cells #[.string key, .string val] 126))
        have HB2 : Hid (∀ m, (World.drewN (wr.alloc (.cells #[.string key, .string val] 126)) m).cell? ⟨p, 1, none⟩ = some (.slice (some ⟨b, off, none⟩) its.length ci) ∧ (World.drewN (wr.alloc (.cells #[.string key, .string val] 126)) m).cell? ⟨p, 2, none⟩ = some (.slice ak 0 ck) ∧ Below w0.heap.size w0 (World.drewN (wr.alloc (.cells #[.string key, .string val] 126)) m) ∧ Below w.heap.size w (World.drewN (wr.alloc (.cells #[.string key, .string val] 126)) m)) := fun m => ⟨cell_keep q1 (below_an wr _ m), cell_keep q2 (below_an wr _ m), below_then (unhide HBel0) (below_an wr _ m), below_then (unhide HBel) (below_an wr _ m)⟩
        obtain ⟨p2, hp2⟩ : ∃ y, y = wr.heap.size := ⟨_, rfl⟩
        rw [← hp2] at z0 z1 ⊢
        clear hp2 c0 c1 q1 q2
        generalize wr.alloc (.cells #[.string key, .string val] 126) = wa at *
        go_quiet (fail)
        go_wp2
        go_ret
        exact ⟨ret_bool (unhide HN).symm, (unhide HB2 _).2.2.2⟩
    · obtain rfl : k = its.length := by omega
      have HD := hide (unhide HU).done
      clear HU
      go_wp2
      go_loop [5] (fun t => t = .int .i64 0) (fun _ => 0)
      case atStart => rfl
      case round =>
        subst hrel
        go_wp2
        go_ret
        exact ⟨ret_bool (unhide HD).symm, unhide HBel⟩
end Go.Proofs.YtlmgmdnmghgkbaaGreatDoor.L6
