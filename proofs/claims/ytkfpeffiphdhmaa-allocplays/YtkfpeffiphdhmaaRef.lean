/- The document's allocator in memory: New, at, Count. -/
import Derived.Test.YtkfpeffiphdhmaaTake
namespace Go.Proofs.Ytkfpeffiphdhmaa
open Go.ChangeShapes Go.WideShapes Go.ChangeAt Go.RowKit

/-- a sector of the document's -/
structure Rc where
  c : Int
  b : Int
  f : Int
  wt : Bool
structure CellsAt (w : World) (g o : Nat) (q : Rc) : Prop where
  c0 : w.cell? ⟨g, o, none⟩ = some (.int .i64 q.c)
  c1 : w.cell? ⟨g, o + 1, none⟩ = some (.int .i64 q.b)
  c2 : w.cell? ⟨g, o + 2, none⟩ = some (.int .i64 q.f)
  c3 : w.cell? ⟨g, o + 3, none⟩ = some (.bool q.wt)
def Rep (q : Rc) : St → Prop
  | none => q.c = 0 ∧ q.wt = false
  | some (0, g) => q.c = 0 ∧ q.wt = true ∧ q.f = g
  | some (h + 1, g) => q.c = (h : Int) + 1 ∧ q.wt = false ∧ q.b = g

structure RefAt (w : World) (r g fr : Nat) (l : List St) : Prop where
  blk : w.heap[r]? = some (.cells #[.int .i64 (fr : Int), .slice (some ⟨g, 0, none⟩) l.length l.length] 52 (0, 0))
  row : ∀ (i : Nat) (s : St), l[i]? = some s → ∃ q : Rc, CellsAt w g (i * 4) q ∧ Rep q s
  free : ∀ j : Nat, w.frozen? ⟨g, j, none⟩ = false
  lt : g < w.heap.size
  ne : r ≠ g
  ok : Ok fr l

variable {w w' : World} {r g fr : Nat} {l : List St}

theorem RefAt.cell0 (h : RefAt w r g fr l) : w.cell? ⟨r, 0, none⟩ = some (.int .i64 (fr : Int)) := by simp [World.cell?, h.blk]
theorem RefAt.cell1 (h : RefAt w r g fr l) : w.cell? ⟨r, 1, none⟩ = some (.slice (some ⟨g, 0, none⟩) l.length l.length) := by simp [World.cell?, h.blk]
theorem RefAt.rlt (h : RefAt w r g fr l) : r < w.heap.size := (Array.getElem?_eq_some_iff.1 h.blk).1
theorem CellsAt.same {g o : Nat} {q : Rc} (h : CellsAt w g o q) (hb : w'.heap[g]? = w.heap[g]?) : CellsAt w' g o q :=
  ⟨(World.cell?_of_block hb).trans h.c0, (World.cell?_of_block hb).trans h.c1, (World.cell?_of_block hb).trans h.c2, (World.cell?_of_block hb).trans h.c3⟩
theorem RefAt.keep {fq : List Nat} (h : RefAt w r g fr l) (hm : Moves fq w w') (hr : r ∉ fq) (hg : g ∉ fq) : RefAt w' r g fr l := by
  have hb := hm.block g h.lt hg
  refine ⟨(hm.block r h.rlt hr).trans h.blk, fun i s hi => ?_, fun j => (World.frozen?_of_block hb).trans (h.free j), Nat.lt_of_lt_of_le h.lt hm.size, h.ne, h.ok⟩
  obtain ⟨q, h1, h2⟩ := h.row i s hi
  exact ⟨q, h1.same hb, h2⟩
theorem RefAt.grow (h : RefAt w r g fr l) (hm : Below w.heap.size w w') : RefAt w' r g fr l :=
  h.keep (Moves.of_below [] hm) List.not_mem_nil List.not_mem_nil

def put4 (w : World) (g o : Nat) (q : Rc) : World := (((w.setCell ⟨g, o, none⟩ (.int .i64 q.c)).setCell ⟨g, o + 1, none⟩ (.int .i64 q.b)).setCell ⟨g, o + 2, none⟩ (.int .i64 q.f)).setCell ⟨g, o + 3, none⟩ (.bool q.wt)
theorem addr_ne {g a b : Nat} (h : a ≠ b) : (⟨g, a, none⟩ : Addr) ≠ ⟨g, b, none⟩ := fun e => h (by injection e)
theorem put4_other {o p : Nat} (q : Rc) (h0 : p ≠ o) (h1 : p ≠ o + 1) (h2 : p ≠ o + 2) (h3 : p ≠ o + 3) : (put4 w g o q).cell? ⟨g, p, none⟩ = w.cell? ⟨g, p, none⟩ := by
  unfold put4
  rw [World.cell?_setCell_other _ _ _ _ (addr_ne (Ne.symm h3)), World.cell?_setCell_other _ _ _ _ (addr_ne (Ne.symm h2)), World.cell?_setCell_other _ _ _ _ (addr_ne (Ne.symm h1)), World.cell?_setCell_other _ _ _ _ (addr_ne (Ne.symm h0))]
theorem put4_moves (w : World) (g o : Nat) (q : Rc) : Moves [g] w (put4 w g o q) :=
  (((Moves.set w g o _ (by simp)).then (Moves.set _ g (o + 1) _ (by simp))).then (Moves.set _ g (o + 2) _ (by simp))).then (Moves.set _ g (o + 3) _ (by simp))
theorem put4_cells {o : Nat} {q : Rc} (q' : Rc) (h : CellsAt w g o q) : CellsAt (put4 w g o q') g o q' := by
  unfold put4
  have n01 : (⟨g, o + 1, none⟩ : Addr) ≠ ⟨g, o, none⟩ := addr_ne (by omega)
  have n02 : (⟨g, o + 2, none⟩ : Addr) ≠ ⟨g, o, none⟩ := addr_ne (by omega)
  have n03 : (⟨g, o + 3, none⟩ : Addr) ≠ ⟨g, o, none⟩ := addr_ne (by omega)
  have n12 : (⟨g, o + 2, none⟩ : Addr) ≠ ⟨g, o + 1, none⟩ := addr_ne (by omega)
  have n13 : (⟨g, o + 3, none⟩ : Addr) ≠ ⟨g, o + 1, none⟩ := addr_ne (by omega)
  have n23 : (⟨g, o + 3, none⟩ : Addr) ≠ ⟨g, o + 2, none⟩ := addr_ne (by omega)
  refine ⟨?_, ?_, ?_, ?_⟩
  · rw [World.cell?_setCell_other _ _ _ _ n03, World.cell?_setCell_other _ _ _ _ n02, World.cell?_setCell_other _ _ _ _ n01]
    exact World.cell?_setCell_same _ _ _ h.c0
  · rw [World.cell?_setCell_other _ _ _ _ n13, World.cell?_setCell_other _ _ _ _ n12]
    exact World.cell?_setCell_same _ _ _ ((World.cell?_setCell_other _ _ _ _ n01.symm).trans h.c1)
  · rw [World.cell?_setCell_other _ _ _ _ n23]
    refine World.cell?_setCell_same _ _ _ (((World.cell?_setCell_other _ _ _ _ n12.symm).trans (World.cell?_setCell_other _ _ _ _ n02.symm)).trans h.c2)
  · refine World.cell?_setCell_same _ _ _ ((((World.cell?_setCell_other _ _ _ _ n23.symm).trans (World.cell?_setCell_other _ _ _ _ n13.symm)).trans (World.cell?_setCell_other _ _ _ _ n03.symm)).trans h.c3)
/-- one sector has turned -/
theorem RefAt.turn (h : RefAt w r g fr l) {i : Nat} {q : Rc} {s : St} (hi : i < l.length) (hm : Moves [g] w w') (hf : ∀ j : Nat, w'.frozen? ⟨g, j, none⟩ = w.frozen? ⟨g, j, none⟩) (hc : CellsAt w' g (i * 4) q) (hr : Rep q s) (hs : goodS s)
    (ho : ∀ p : Nat, (p < i * 4 ∨ i * 4 + 4 ≤ p) → w'.cell? ⟨g, p, none⟩ = w.cell? ⟨g, p, none⟩) : RefAt w' r g fr (l.set i s) := by
  refine ⟨?_, fun j x hj => ?_, fun j => (hf j).trans (h.free j), Nat.lt_of_lt_of_le h.lt hm.size, h.ne, ⟨by rw [List.length_set]; exact h.ok.few, fun x hx => ?_⟩⟩
  · rw [List.length_set]
    exact (hm.block r h.rlt (by have := h.ne; simp; exact this)).trans h.blk
  · rw [List.getElem?_set] at hj
    split at hj
    · rename_i e
      subst e
      first
        | (rw [if_pos hi] at hj; cases hj; exact ⟨q, hc, hr⟩)
        | (cases hj; exact ⟨q, hc, hr⟩)
    · rename_i e
      obtain ⟨q2, h1, h2⟩ := h.row j x hj
      have hne : ∀ k, k < 4 → (j * 4 + k < i * 4 ∨ i * 4 + 4 ≤ j * 4 + k) := fun k hk => by omega
      exact ⟨q2, ⟨(ho _ (hne 0 (by omega))).trans h1.c0, (ho _ (hne 1 (by omega))).trans h1.c1, (ho _ (hne 2 (by omega))).trans h1.c2, (ho _ (hne 3 (by omega))).trans h1.c3⟩, h2⟩
  · rcases List.mem_or_eq_of_mem_set hx with hx | hx
    · exact h.ok.good x hx
    · rw [hx]; exact hs
theorem RefAt.put (h : RefAt w r g fr l) {i : Nat} {q : Rc} {s : St} (hi : i < l.length) (hr : Rep q s) (hs : goodS s) : RefAt (put4 w g (i * 4) q) r g fr (l.set i s) := by
  obtain ⟨q0, h0, _⟩ := h.row i l[i] (List.getElem?_eq_getElem hi)
  refine h.turn hi (put4_moves _ _ _ _) (fun j => by unfold put4; simp) (put4_cells q h0) hr hs (fun p hp => put4_other q (by omega) (by omega) (by omega) (by omega))
theorem RefAt.set0 (h : RefAt w r g fr l) {i : Nat} {q : Rc} {c : Int} {s : St} (hi : i < l.length) (hq : CellsAt w g (i * 4) q) (hr : Rep { q with c := c } s) (hs : goodS s) : RefAt (w.setCell ⟨g, i * 4, none⟩ (.int .i64 c)) r g fr (l.set i s) := by
  refine h.turn (q := { q with c := c }) hi (Moves.set w g _ _ (by simp)) (fun j => by simp) ⟨World.cell?_setCell_same _ _ _ hq.c0, ?_, ?_, ?_⟩ hr hs (fun p hp => World.cell?_setCell_other _ _ _ _ (addr_ne (by omega)))
  · exact (World.cell?_setCell_other _ _ _ _ (addr_ne (by omega))).trans hq.c1
  · exact (World.cell?_setCell_other _ _ _ _ (addr_ne (by omega))).trans hq.c2
  · exact (World.cell?_setCell_other _ _ _ _ (addr_ne (by omega))).trans hq.c3

/-! New -/
set_option maxHeartbeats 1000000 in
set_option maxRecDepth 20000 in
theorem rnew_bad (f t : Int) (w : World) (h : f < 0 ∨ t < f ∨ 4096 < t) :
    Calls Try.prog 10 #[.int .i64 f, .int .i64 t] w fun e w' => e = .returned (.tuple #[.pointer none, .int .i64 1]) ∧ w' = w := by
  by_cases h1 : f < 0
  · go_enter Try.func10, Try.ntmps10
    go_wp2
    go_ret2
    simp
  · by_cases h2 : t < f
    · go_enter Try.func10, Try.ntmps10
      go_wp2
      go_ret2
      simp
    · have h3 : 4096 < t := by omega
      clear h
      go_enter Try.func10, Try.ntmps10
      go_wp2
      go_ret2
      simp
theorem info54 : (Try.prog.info? 54).map (fun i => (i.zero, i.size, i.bytes)) = some (some (.agg #[.int .i64 0, .int .i64 0, .int .i64 0, .bool false]), 4, 32) := by kernel_rfl
def mkW (w : World) (k : Nat) : World := w.alloc (.cells (madeCells #[.int .i64 0, .int .i64 0, .int .i64 0, .bool false] (k * 4)) 54)
theorem make_run (w : World) (k : Nat) (h : k ≤ 4096) : (Instr.makeSlice 50 (.int .i64 (k : Int)) (.int .i64 (k : Int))).run Try.prog w = .ok (.slice (some ⟨w.heap.size, 0, none⟩) k k) (mkW w k) := by
  obtain ⟨i0, hi, hz0, hz1, hz2⟩ := info_parts info54
  have := run_make (P := Try.prog) w 50 54 i0 _ Try.underlying50 hi hz0 .i64 .i64 (k : Int) (k : Int) (by omega) (Int.le_refl _) (by rw [hz2]; omega) (by omega)
  rw [this, hz1]
  simp only [Int.toNat_natCast]
  rfl
theorem made_cell (z : Array Value) (n j : Nat) (h : j < n) : (madeCells z n)[j]? = some (z[j % z.size]!) := by
  unfold madeCells
  simp [h]
theorem made_ref (w : World) (f k : Nat) (hok : Ok f (List.replicate k none)) :
    RefAt ((mkW w k).alloc (.cells #[.int .i64 (f : Int), .slice (some ⟨w.heap.size, 0, none⟩) k k] 52)) (w.heap.size + 1) w.heap.size f (List.replicate k none) := by
  have hb : ((mkW w k).alloc (.cells #[.int .i64 (f : Int), .slice (some ⟨w.heap.size, 0, none⟩) k k] 52)).heap[w.heap.size]? = some (.cells (madeCells #[.int .i64 0, .int .i64 0, .int .i64 0, .bool false] (k * 4)) 54 (0, 0)) := by
    rw [Below.heap_alloc _ _ _ (by unfold mkW; simp)]
    unfold mkW
    exact (MapKept.heap_alloc w _).1
  refine ⟨?_, fun i s hi => ?_, fun j => by simp [World.frozen?, hb], ?_, by omega, hok⟩
  · rw [List.length_replicate]
    unfold mkW
    show ((w.heap.push _).push _)[w.heap.size + 1]? = _
    rw [Array.getElem?_push, if_pos (by simp)]
  · rw [List.getElem?_replicate] at hi
    split at hi
    · rename_i hik
      cases hi
      have c : ∀ j, j < 4 → (madeCells #[Value.int .i64 0, .int .i64 0, .int .i64 0, .bool false] (k * 4))[i * 4 + j]? = some ((#[Value.int .i64 0, .int .i64 0, .int .i64 0, .bool false] : Array Value)[j]!) := by
        intro j hj
        rw [made_cell _ _ _ (by omega)]
        have e : (i * 4 + j) % 4 = j := by omega
        show some ((#[Value.int .i64 0, .int .i64 0, .int .i64 0, .bool false] : Array Value)[(i * 4 + j) % 4]!) = _
        rw [e]
      refine ⟨⟨0, 0, 0, false⟩, ⟨?_, ?_, ?_, ?_⟩, rfl, rfl⟩
      · have := c 0 (by omega)
        simp [World.cell?, hb]
        simpa using this
      · have := c 1 (by omega)
        simp [World.cell?, hb]
        simpa using this
      · have := c 2 (by omega)
        simp [World.cell?, hb]
        simpa using this
      · have := c 3 (by omega)
        simp [World.cell?, hb]
        simpa using this
    · cases hi
  · unfold mkW
    simp
    omega
set_option maxHeartbeats 1000000 in
set_option maxRecDepth 20000 in
theorem rnew_ok (f t : Nat) (w : World) (h1 : f ≤ t) (h2 : t ≤ 4096) :
    Calls Try.prog 10 #[.int .i64 (f : Int), .int .i64 (t : Int)] w fun e w' => ∃ r g, e = .returned (.tuple #[.pointer (some ⟨r, 0, none⟩), .int .i64 0]) ∧ RefAt w' r g f (newM f t) ∧ Below w.heap.size w w' ∧ w.heap.size ≤ r ∧ w.heap.size ≤ g := by
  have g1 : ¬ (f : Int) < 0 := by omega
  have g2 : ¬ (t : Int) < (f : Int) := by omega
  have g3 : ¬ (4096 : Int) < (t : Int) := by omega
  have hw : IntKind.i64.wrap ((t : Int) - (f : Int)) = ((t - f : Nat) : Int) := by rw [IntKind.wrap_i64]; omega
  have hmk := make_run w (t - f) (by omega)
  have es : (mkW w (t - f)).heap.size = w.heap.size + 1 := by unfold mkW; simp
  have H1 := hide h1
  have H2 := hide h2
  clear h1 h2
  generalize hk : t - f = k at *
  have HK := hide hk
  clear hk
  go_enter Try.func10, Try.ntmps10
  go_wp2
  go_ret2
  have h1 := unhide H1
  have h2 := unhide H2
  have hk := unhide HK
  subst hk
  refine ⟨w.heap.size + 1, rfl, w.heap.size, made_ref w f (t - f) (Ok.newM h1 h2), ?_, by omega, Nat.le_refl _⟩
  exact ((Below.refl _ w).alloc (Nat.le_refl _) _).alloc (by rw [show (w.alloc _).heap.size = (mkW w (t - f)).heap.size from rfl, es]; omega) _

/-! at -/
set_option maxHeartbeats 1000000 in
set_option maxRecDepth 20000 in
theorem rat_in (n : Int) (w : World) (h : RefAt w r g fr l) (hi : In fr l n) :
    Calls Try.prog 27 #[.pointer (some ⟨r, 0, none⟩), .int .i64 n] w fun e w' => e = .returned (.int .i64 (ix fr n : Int)) ∧ Below w.heap.size w w' := by
  have c0 := h.cell0
  have c1 := h.cell1
  have hfew := h.ok.few
  have e0 : (ix fr n : Int) = n - (fr : Int) := by unfold ix; unfold In at hi; omega
  rw [e0]
  have h1 : decide (n < (fr : Int)) = false := decide_eq_false (by unfold In at hi; omega)
  have h2 : n - (fr : Int) < (l.length : Int) := by unfold In at hi; omega
  have hw0 : IntKind.i64.wrap (n - (fr : Int)) = n - (fr : Int) := by rw [IntKind.wrap_i64]; unfold In at hi; omega
  obtain ⟨x, hx⟩ : ∃ x : Int, x = n - (fr : Int) := ⟨_, rfl⟩
  have hw : IntKind.i64.wrap (n - (fr : Int)) = x := by rw [hw0, hx]
  rw [← hx] at h2 ⊢
  clear h hi hfew e0 hw0 hx
  go_enter Try.func27, Try.ntmps27
  go_wp2_with fail
  go_quiet (fail)
  go_wp2
  go_ret
  exact ⟨rfl, ⟨rfl, rfl, rfl, Nat.le_refl _, fun _ _ => rfl⟩⟩
set_option maxHeartbeats 1000000 in
set_option maxRecDepth 20000 in
theorem rat_out (n : Int) (hn : I64 n) (w : World) (h : RefAt w r g fr l) (hi : ¬ In fr l n) :
    Calls Try.prog 27 #[.pointer (some ⟨r, 0, none⟩), .int .i64 n] w fun e w' => e = .returned (.int .i64 (-1)) ∧ Below w.heap.size w w' := by
  have c0 := h.cell0
  have c1 := h.cell1
  have hfew := h.ok.few
  by_cases h1 : n < (fr : Int)
  · clear h hi hfew hn
    go_enter Try.func27, Try.ntmps27
    go_wp2_with fail
    go_quiet (fail)
    go_wp2
    go_ret
    exact ⟨rfl, ⟨rfl, rfl, rfl, Nat.le_refl _, fun _ _ => rfl⟩⟩
  · have h1' : decide (n < (fr : Int)) = false := decide_eq_false h1
    have h2 : (l.length : Int) ≤ n - (fr : Int) := by unfold In at hi; omega
    have hw0 : IntKind.i64.wrap (n - (fr : Int)) = n - (fr : Int) := by rw [IntKind.wrap_i64]; unfold I64 at hn; omega
    obtain ⟨x, hx⟩ : ∃ x : Int, x = n - (fr : Int) := ⟨_, rfl⟩
    have hw : IntKind.i64.wrap (n - (fr : Int)) = x := by rw [hw0, hx]
    rw [← hx] at h2
    clear h hi hfew h1 hn hw0 hx
    go_enter Try.func27, Try.ntmps27
    go_wp2_with fail
    go_quiet (fail)
    go_wp2
    go_ret
    exact ⟨rfl, ⟨rfl, rfl, rfl, Nat.le_refl _, fun _ _ => rfl⟩⟩
end Go.Proofs.Ytkfpeffiphdhmaa
