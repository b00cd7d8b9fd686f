/- The document's allocator: Count, Mark, Hold. -/
import Derived.Test.YtkfpeffiphdhmaaRef
namespace Go.Proofs.Ytkfpeffiphdhmaa
open Go.ChangeShapes Go.WideShapes Go.ChangeAt Go.RowKit

variable {w w' : World} {r g fr : Nat} {l : List St}

theorem Rep.cnt {q : Rc} {s : St} (h : Rep q s) : q.c = (cntS s : Int) := by
  match s, h with
  | none, h => exact h.1
  | some (0, g), h => exact h.1
  | some (c + 1, g), h => exact h.1
theorem Rep.wait {q : Rc} {s : St} (h : Rep q s) : q.wt = waitS s := by
  match s, h with
  | none, h => exact h.2
  | some (0, g), h => exact h.2.1
  | some (c + 1, g), h => exact h.2.1
/-- a sector of the document's, where it lies -/
theorem RefAt.at (h : RefAt w r g fr l) {n : Int} (hi : In fr l n) : ∃ q, CellsAt w g (ix fr n * 4) q ∧ Rep q (sec fr l n) := h.row _ _ (sec_at hi)

set_option maxHeartbeats 1000000 in
set_option maxRecDepth 20000 in
theorem rcount_in (n : Int) (w : World) (h : RefAt w r g fr l) (hi : In fr l n) :
    Calls Try.prog 22 #[.pointer (some ⟨r, 0, none⟩), .int .i64 n] w fun e w' => e = .returned (.int .i64 (cntS (sec fr l n) : Int)) ∧ Below w.heap.size w w' := by
  have hlt := ix_lt hi
  have HR := hide (rat_in n w h hi)
  have HH := hide h
  have HI := hide hi
  have hlt' : (ix fr n : Int) < (l.length : Int) := by omega
  clear h hi
  go_enter Try.func22, Try.ntmps22
  go_wp2_with (go_at_call 27; refine (unhide HR).mono ?_; rintro e w1 ⟨rfl, hb1⟩; have hA := (unhide HH).grow hb1; have HB1 := hide hb1; have c1 := hA.cell1; obtain ⟨q, hq, hrep⟩ := hA.at (unhide HI); have q0 := hq.c0; rw [hrep.cnt] at q0; clear hA hb1 hq hrep)
  go_ret
  exact ⟨rfl, unhide HB1⟩
set_option maxHeartbeats 1000000 in
set_option maxRecDepth 20000 in
theorem rcount_any (n : Int) (hn : I64 n) (w : World) (h : RefAt w r g fr l) :
    Calls Try.prog 22 #[.pointer (some ⟨r, 0, none⟩), .int .i64 n] w fun e w' => e = .returned (.int .i64 (cntS (sec fr l n) : Int)) ∧ Below w.heap.size w w' := by
  by_cases hi : In fr l n
  · exact rcount_in n w h hi
  · rw [sec_none hi]
    have HR := hide (rat_out n hn w h hi)
    clear h hi hn
    show Calls Try.prog 22 #[.pointer (some ⟨r, 0, none⟩), .int .i64 n] w fun e w' => e = .returned (.int .i64 0) ∧ Below w.heap.size w w'
    go_enter Try.func22, Try.ntmps22
    go_wp2_with (go_at_call 27; refine (unhide HR).mono ?_; rintro e w1 ⟨rfl, hb1⟩; have HB1 := hide hb1; clear hb1)
    go_ret
    exact ⟨rfl, unhide HB1⟩

/-! Mark -/
set_option maxHeartbeats 1000000 in
set_option maxRecDepth 20000 in
theorem rmark_out (n gen : Int) (hn : I64 n) (w : World) (h : RefAt w r g fr l) (hi : ¬ In fr l n) :
    Calls Try.prog 14 #[.pointer (some ⟨r, 0, none⟩), .int .i64 n, .int .i64 gen] w fun e w' => e = .returned (.int .i64 31) ∧ Below w.heap.size w w' := by
  have HR := hide (rat_out n hn w h hi)
  clear h hi hn
  go_enter Try.func14, Try.ntmps14
  go_wp2_with (go_at_call 27; refine (unhide HR).mono ?_; rintro e w1 ⟨rfl, hb1⟩; have HB1 := hide hb1; clear hb1)
  go_ret
  exact ⟨rfl, unhide HB1⟩
set_option maxHeartbeats 1000000 in
set_option maxRecDepth 20000 in
theorem rmark_there (n gen : Int) (w : World) (h : RefAt w r g fr l) (hi : In fr l n) (hs : sec fr l n ≠ none) :
    Calls Try.prog 14 #[.pointer (some ⟨r, 0, none⟩), .int .i64 n, .int .i64 gen] w fun e w' => e = .returned (.int .i64 103) ∧ Below w.heap.size w w' := by
  have hlt := ix_lt hi
  have HR := hide (rat_in n w h hi)
  have HH := hide h
  have HI := hide hi
  have hlt' : (ix fr n : Int) < (l.length : Int) := by omega
  by_cases hc : cntS (sec fr l n) = 0
  · have hw : waitS (sec fr l n) = true := by
      match hs2 : sec fr l n with
      | none => exact absurd hs2 hs
      | some (0, g) => rfl
      | some (c + 1, g) => rw [hs2] at hc; exact absurd hc (by simp [cntS])
    have HX := hide (And.intro hc hw)
    clear h hi hs hc hw
    go_enter Try.func14, Try.ntmps14
    go_wp2_with (go_at_call 27; refine (unhide HR).mono ?_; rintro e w1 ⟨rfl, hb1⟩; have hA := (unhide HH).grow hb1; have HB1 := hide hb1; have c1 := hA.cell1; obtain ⟨q, hq, hrep⟩ := hA.at (unhide HI); have q0 := hq.c0; have q3 := hq.c3; rw [hrep.cnt, (unhide HX).1] at q0; rw [hrep.wait, (unhide HX).2] at q3; have q0' : w1.cell? ⟨g, ix fr n * 4, none⟩ = some (.int .i64 0) := q0; clear hA hb1 hq hrep q0)
    go_ret
    exact ⟨rfl, unhide HB1⟩
  · have HX : Hid (0 < (cntS (sec fr l n) : Int)) := by show 0 < (cntS (sec fr l n) : Int); omega
    clear h hi hs hc
    go_enter Try.func14, Try.ntmps14
    go_wp2_with (go_at_call 27; refine (unhide HR).mono ?_; rintro e w1 ⟨rfl, hb1⟩; have hA := (unhide HH).grow hb1; have HB1 := hide hb1; have c1 := hA.cell1; obtain ⟨q, hq, hrep⟩ := hA.at (unhide HI); have q0 := hq.c0; have q3 := hq.c3; have hp : 0 < q.c := (by rw [hrep.cnt]; exact unhide HX); clear hA hb1 hq hrep)
    go_ret
    exact ⟨rfl, unhide HB1⟩
set_option maxHeartbeats 1000000 in
set_option maxRecDepth 20000 in
theorem rmark_ok (n gen : Int) (hg : I64 gen) (w : World) (h : RefAt w r g fr l) (hi : In fr l n) (hs : sec fr l n = none) :
    Calls Try.prog 14 #[.pointer (some ⟨r, 0, none⟩), .int .i64 n, .int .i64 gen] w fun e w' => e = .returned (.int .i64 0) ∧ RefAt w' r g fr (upd fr l n (some (1, gen))) ∧ Moves [g] w w' := by
  have hlt := ix_lt hi
  have HR := hide (rat_in n w h hi)
  have HH := hide h
  have HI := hide hi
  have hlt' : (ix fr n : Int) < (l.length : Int) := by omega
  have HX := hide hs
  have HG := hide hg
  clear h hi hs hg
  go_enter Try.func14, Try.ntmps14
  go_wp2_with (go_at_call 27; refine (unhide HR).mono ?_; rintro e w1 ⟨rfl, hb1⟩; have hA := (unhide HH).grow hb1; have HA := hide hA; have HB1 := hide hb1; have c1 := hA.cell1; have hf := hA.free; obtain ⟨q, hq, hrep⟩ := hA.at (unhide HI); rw [unhide HX] at hrep; have q0 := hq.c0; have q1 := hq.c1; have q2 := hq.c2; have q3 := hq.c3; rw [hrep.1] at q0; rw [hrep.2] at q3; clear hA hb1 hq hrep)
  go_ret
  rw [upd_in _ (unhide HI)]
  exact ⟨rfl, (unhide HA).put (q := ⟨1, gen, 0, false⟩) hlt ⟨rfl, rfl, rfl⟩ ⟨by decide, unhide HG⟩, (Moves.of_below _ (unhide HB1)).then (put4_moves _ _ _ ⟨1, gen, 0, false⟩)⟩
theorem rmark_any (n gen : Int) (w : World) (h : RefAt w r g fr l) (hn : I64 n) (hg : I64 gen) :
    Calls Try.prog 14 #[.pointer (some ⟨r, 0, none⟩), .int .i64 n, .int .i64 gen] w fun e w' => e = .returned (.int .i64 (markE fr l n)) ∧ RefAt w' r g fr (markM fr l n gen) ∧ Moves [g] w w' := by
  unfold markE markM
  by_cases hi : In fr l n
  · rw [if_pos hi]
    by_cases hs : sec fr l n = none
    · rw [if_pos hs, if_pos hs]
      exact rmark_ok n gen hg w h hi hs
    · rw [if_neg hs, if_neg hs]
      refine (rmark_there n gen w h hi hs).mono ?_
      rintro e w' ⟨rfl, hb⟩
      exact ⟨rfl, h.grow hb, Moves.of_below _ hb⟩
  · rw [if_neg hi, sec_none hi, if_pos rfl]
    refine (rmark_out n gen hn w h hi).mono ?_
    rintro e w' ⟨rfl, hb⟩
    have e : upd fr l n (some (1, gen)) = l := by unfold upd; rw [if_neg hi]
    rw [e]
    exact ⟨rfl, h.grow hb, Moves.of_below _ hb⟩

/-! Hold -/
set_option maxHeartbeats 1000000 in
set_option maxRecDepth 20000 in
theorem rhold_free (n : Int) (hn : I64 n) (w : World) (h : RefAt w r g fr l) (hc : cntS (sec fr l n) = 0) :
    Calls Try.prog 16 #[.pointer (some ⟨r, 0, none⟩), .int .i64 n] w fun e w' => e = .returned (.int .i64 51) ∧ Below w.heap.size w w' := by
  by_cases hi : In fr l n
  · have hlt := ix_lt hi
    have HR := hide (rat_in n w h hi)
    have HH := hide h
    have HI := hide hi
    have hlt' : (ix fr n : Int) < (l.length : Int) := by omega
    have HX := hide hc
    clear h hi hc hn
    go_enter Try.func16, Try.ntmps16
    go_wp2_with (go_at_call 27; refine (unhide HR).mono ?_; rintro e w1 ⟨rfl, hb1⟩; have hA := (unhide HH).grow hb1; have HB1 := hide hb1; have c1 := hA.cell1; obtain ⟨q, hq, hrep⟩ := hA.at (unhide HI); have q0 := hq.c0; rw [hrep.cnt, unhide HX] at q0; have q0' : w1.cell? ⟨g, ix fr n * 4, none⟩ = some (.int .i64 0) := q0; clear hA hb1 hq hrep q0)
    go_ret
    exact ⟨rfl, unhide HB1⟩
  · have HR := hide (rat_out n hn w h hi)
    clear h hi hn hc
    go_enter Try.func16, Try.ntmps16
    go_wp2_with (go_at_call 27; refine (unhide HR).mono ?_; rintro e w1 ⟨rfl, hb1⟩; have HB1 := hide hb1; clear hb1)
    go_ret
    exact ⟨rfl, unhide HB1⟩
set_option maxHeartbeats 1000000 in
set_option maxRecDepth 20000 in
theorem rhold_many (n : Int) (w : World) (h : RefAt w r g fr l) (hi : In fr l n) (hc : cntS (sec fr l n) = 5000) :
    Calls Try.prog 16 #[.pointer (some ⟨r, 0, none⟩), .int .i64 n] w fun e w' => e = .returned (.int .i64 52) ∧ Below w.heap.size w w' := by
  have hlt := ix_lt hi
  have HR := hide (rat_in n w h hi)
  have HH := hide h
  have HI := hide hi
  have hlt' : (ix fr n : Int) < (l.length : Int) := by omega
  have HX := hide hc
  clear h hi hc
  go_enter Try.func16, Try.ntmps16
  go_wp2_with (go_at_call 27; refine (unhide HR).mono ?_; rintro e w1 ⟨rfl, hb1⟩; have hA := (unhide HH).grow hb1; have HB1 := hide hb1; have c1 := hA.cell1; obtain ⟨q, hq, hrep⟩ := hA.at (unhide HI); have q0 := hq.c0; rw [hrep.cnt, unhide HX] at q0; have q0' : w1.cell? ⟨g, ix fr n * 4, none⟩ = some (.int .i64 5000) := q0; clear hA hb1 hq hrep q0)
  go_ret
  exact ⟨rfl, unhide HB1⟩
set_option maxHeartbeats 1000000 in
set_option maxRecDepth 20000 in
theorem rhold_ok (n : Int) (w : World) (h : RefAt w r g fr l) (c : Nat) (gn : Int) (hs : sec fr l n = some (c + 1, gn)) (h5 : c + 1 ≠ 5000) :
    Calls Try.prog 16 #[.pointer (some ⟨r, 0, none⟩), .int .i64 n] w fun e w' => e = .returned (.int .i64 0) ∧ RefAt w' r g fr (upd fr l n (some (c + 2, gn))) ∧ Moves [g] w w' := by
  have hi := sec_some hs
  have hlt := ix_lt hi
  have HR := hide (rat_in n w h hi)
  have HH := hide h
  have HI := hide hi
  have hlt' : (ix fr n : Int) < (l.length : Int) := by omega
  have HX := hide hs
  have hgo := h.ok.sec n
  rw [hs] at hgo
  have hgo2 : c + 1 ≤ 5000 ∧ I64 gn := hgo
  have HG := hide hgo2
  have H5 := hide h5
  obtain ⟨x, hx⟩ : ∃ x : Int, x = (c : Int) + 1 := ⟨_, rfl⟩
  have x0 : (x == 0) = false := beq_false_of_ne (by omega)
  have x5 : ¬ x = 5000 := by omega
  have n0 : decide ((ix fr n : Int) < 0) = false := decide_eq_false (by omega)
  have hw : IntKind.i64.wrap (x + 1) = x + 1 := by rw [IntKind.wrap_i64]; omega
  have HXX := hide hx
  clear h hi hs hgo hgo2 h5 hx
  go_enter Try.func16, Try.ntmps16
  go_wp2_with (go_at_call 27; refine (unhide HR).mono ?_; rintro e w1 ⟨rfl, hb1⟩; have hA := (unhide HH).grow hb1; have HA := hide hA; have HB1 := hide hb1; have c1 := hA.cell1; have hf := hA.free; obtain ⟨q, hq, hrep⟩ := hA.at (unhide HI); rw [unhide HX] at hrep; have q0 := hq.c0; rw [hrep.1, ← unhide HXX] at q0; have HQ := hide (And.intro hq hrep); clear hA hb1 hq hrep)
  go_ret
  rw [upd_in _ (unhide HI)]
  have hrep := (unhide HQ).2
  exact ⟨rfl, (unhide HA).set0 (c := x + 1) (s := some (c + 2, gn)) hlt (unhide HQ).1 ⟨by show x + 1 = ((c + 1 : Nat) : Int) + 1; have := unhide HXX; omega, hrep.2.1, hrep.2.2⟩ ⟨by have := (unhide HG).1; have := unhide H5; omega, (unhide HG).2⟩, (Moves.of_below _ (unhide HB1)).then (Moves.set _ _ _ _ (by simp))⟩
theorem rhold_any (n : Int) (w : World) (h : RefAt w r g fr l) (hn : I64 n) :
    Calls Try.prog 16 #[.pointer (some ⟨r, 0, none⟩), .int .i64 n] w fun e w' => e = .returned (.int .i64 (holdE fr l n)) ∧ RefAt w' r g fr (holdM fr l n) ∧ Moves [g] w w' := by
  unfold holdE holdM
  by_cases h5 : cntS (sec fr l n) = 5000
  · rw [if_pos h5, if_pos h5, if_neg (by omega)]
    have hi : In fr l n := by
      by_cases hi : In fr l n
      · exact hi
      · rw [sec_none hi] at h5; cases h5
    refine (rhold_many n w h hi h5).mono ?_
    rintro e w' ⟨rfl, hb⟩
    exact ⟨rfl, h.grow hb, Moves.of_below _ hb⟩
  · rw [if_neg h5, if_neg h5]
    by_cases h0 : cntS (sec fr l n) = 0
    · have e2 : holdS (sec fr l n) = sec fr l n := by
        cases hs : sec fr l n with
        | none => rfl
        | some x => obtain ⟨c, g⟩ := x; rw [hs] at h0; change c = 0 at h0; subst h0; rfl
      rw [if_pos h0, e2, upd_same]
      refine (rhold_free n hn w h h0).mono ?_
      rintro e w' ⟨rfl, hb⟩
      exact ⟨rfl, h.grow hb, Moves.of_below _ hb⟩
    · rw [if_neg h0]
      cases hs : sec fr l n with
      | none => rw [hs] at h0; exact absurd rfl h0
      | some x =>
        obtain ⟨c, gn⟩ := x
        rw [hs] at h0 h5
        change ¬ c = 0 at h0
        change ¬ c = 5000 at h5
        obtain ⟨k, rfl⟩ : ∃ k, c = k + 1 := ⟨c - 1, by omega⟩
        exact rhold_ok n w h k gn hs h5
end Go.Proofs.Ytkfpeffiphdhmaa
