/- What the law AllocOnce keeps in its four arrays. -/
import Derived.Test.YtkfpeffiphdhmaaTake
import Derived.Test.YtkfpeffiphdhmaaArgs
namespace Go.Proofs.Ytkfpeffiphdhmaa
open Go.ChangeShapes Go.WideShapes Go.ChangeAt Go.RowKit

def fupd {α : Type} (f : Nat → α) (i : Nat) (v : α) : Nat → α := fun j => if j = i then v else f j
theorem fupd_same {α : Type} (f : Nat → α) (i : Nat) (v : α) : fupd f i v i = v := if_pos rfl
theorem fupd_ne {α : Type} (f : Nat → α) {i j : Nat} (v : α) (h : j ≠ i) : fupd f i v j = f j := if_neg h

/-- an array of fifty -/
structure Row (w : World) (g : Nat) (F : Nat → Value) : Prop where
  cells : ∀ i, i < 50 → w.cell? ⟨g, i, none⟩ = some (F i)
  free : ∀ i, w.frozen? ⟨g, i, none⟩ = false

variable {W w w' : World} {d b hb wb bb ub : Nat} {l l' : List St} {H Wt : Nat → Bool} {B U : Nat → Int} {F : Nat → Value} {g : Nat}

theorem Row.lt (h : Row w g F) : g < w.heap.size := World.block_lt_of_cell? _ _ (h.cells 0 (by omega))
theorem Row.keep {fq : List Nat} (h : Row w g F) (hm : Moves fq w w') (hg : g ∉ fq) : Row w' g F := by
  have e := hm.block g h.lt hg
  exact ⟨fun i hi => (World.cell?_of_block e).trans (h.cells i hi), fun i => (World.frozen?_of_block e).trans (h.free i)⟩
theorem Row.set (h : Row w g F) {i : Nat} (hi : i < 50) (v : Value) : Row (w.setCell ⟨g, i, none⟩ v) g (fupd F i v) := by
  refine ⟨fun j hj => ?_, fun j => by simp; exact h.free j⟩
  by_cases e : j = i
  · subst e
    rw [fupd_same]
    exact World.cell?_setCell_same _ _ _ (h.cells j hj)
  · rw [fupd_ne _ _ e, World.cell?_setCell_other _ _ _ _ (fun e' => e (by injection e' with _ h2; exact h2.symm))]
    exact h.cells j hj
theorem Row.congr {F' : Nat → Value} (h : Row w g F) (e : ∀ i, i < 50 → F i = F' i) : Row w g F' := ⟨fun i hi => by rw [← e i hi]; exact h.cells i hi, h.free⟩

structure Mem (W w : World) (d b hb wb bb ub : Nat) (l : List St) (H Wt : Nat → Bool) (B U : Nat → Int) : Prop where
  s : Stp W w d b 2 l
  h : Row w hb (fun i => .bool (H i))
  wt : Row w wb (fun i => .bool (Wt i))
  bn : Row w bb (fun i => .int .i64 (B i))
  un : Row w ub (fun i => .int .i64 (U i))
  new : W.heap.size ≤ hb ∧ W.heap.size ≤ wb ∧ W.heap.size ≤ bb ∧ W.heap.size ≤ ub
  ne : hb ≠ wb ∧ hb ≠ bb ∧ hb ≠ ub ∧ wb ≠ bb ∧ wb ≠ ub ∧ bb ≠ ub
  nb : hb ≠ b ∧ wb ≠ b ∧ bb ≠ b ∧ ub ≠ b
  nd : hb ≠ d ∧ wb ≠ d ∧ bb ≠ d ∧ ub ≠ d

theorem Mem.grow (h : Mem W w d b hb wb bb ub l H Wt B U) (hm : Below w.heap.size w w') : Mem W w' d b hb wb bb ub l H Wt B U :=
  ⟨h.s.grow hm, h.h.keep (Moves.of_below [] hm) List.not_mem_nil, h.wt.keep (Moves.of_below [] hm) List.not_mem_nil, h.bn.keep (Moves.of_below [] hm) List.not_mem_nil, h.un.keep (Moves.of_below [] hm) List.not_mem_nil, h.new, h.ne, h.nb, h.nd⟩
theorem Mem.turn (h : Mem W w d b hb wb bb ub l H Wt B U) (ha : AllocAt w' d b 2 l') (hm : Moves [b] w w') : Mem W w' d b hb wb bb ub l' H Wt B U := by
  obtain ⟨n1, n2, n3, n4⟩ := h.nb
  exact ⟨h.s.turn ha hm, h.h.keep hm (by simpa using n1), h.wt.keep hm (by simpa using n2), h.bn.keep hm (by simpa using n3), h.un.keep hm (by simpa using n4), h.new, h.ne, h.nb, h.nd⟩
theorem Stp.side {fr : Nat} (h : Stp W w d b fr l) {g : Nat} (hm : Moves [g] w w') (hg : W.heap.size ≤ g) (h1 : g ≠ d) (h2 : g ≠ b) : Stp W w' d b fr l :=
  ⟨h.al.keep hm (by simpa using fun e => h1 (Eq.symm e)) (by simpa using fun e => h2 (Eq.symm e)), Moves.below h.bel hm (by simpa using hg) h.bel.size, h.new⟩
theorem Mem.setH (h : Mem W w d b hb wb bb ub l H Wt B U) {i : Nat} (hi : i < 50) (v : Bool) : Mem W (w.setCell ⟨hb, i, none⟩ (.bool v)) d b hb wb bb ub l (fupd H i v) Wt B U := by
  have hm : Moves [hb] w (w.setCell ⟨hb, i, none⟩ (.bool v)) := Moves.set w hb i _ (by simp)
  obtain ⟨n1, n2, n3, n4⟩ := h.nb
  obtain ⟨m1, m2, m3, m4⟩ := h.nd
  obtain ⟨e1, e2, e3, e4, e5, e6⟩ := h.ne
  refine ⟨h.s.side hm h.new.1 m1 n1, (h.h.set hi _).congr (fun j _ => ?_), h.wt.keep hm (by simpa using fun e => e1 (Eq.symm e)), h.bn.keep hm (by simpa using fun e => e2 (Eq.symm e)), h.un.keep hm (by simpa using fun e => e3 (Eq.symm e)), h.new, h.ne, h.nb, h.nd⟩
  unfold fupd
  split <;> rfl
theorem Mem.setW (h : Mem W w d b hb wb bb ub l H Wt B U) {i : Nat} (hi : i < 50) (v : Bool) : Mem W (w.setCell ⟨wb, i, none⟩ (.bool v)) d b hb wb bb ub l H (fupd Wt i v) B U := by
  have hm : Moves [wb] w (w.setCell ⟨wb, i, none⟩ (.bool v)) := Moves.set w wb i _ (by simp)
  obtain ⟨n1, n2, n3, n4⟩ := h.nb
  obtain ⟨m1, m2, m3, m4⟩ := h.nd
  obtain ⟨e1, e2, e3, e4, e5, e6⟩ := h.ne
  refine ⟨h.s.side hm h.new.2.1 m2 n2, h.h.keep hm (by simpa using e1), (h.wt.set hi _).congr (fun j _ => ?_), h.bn.keep hm (by simpa using fun e => e4 (Eq.symm e)), h.un.keep hm (by simpa using fun e => e5 (Eq.symm e)), h.new, h.ne, h.nb, h.nd⟩
  unfold fupd
  split <;> rfl
theorem Mem.setB (h : Mem W w d b hb wb bb ub l H Wt B U) {i : Nat} (hi : i < 50) (v : Int) : Mem W (w.setCell ⟨bb, i, none⟩ (.int .i64 v)) d b hb wb bb ub l H Wt (fupd B i v) U := by
  have hm : Moves [bb] w (w.setCell ⟨bb, i, none⟩ (.int .i64 v)) := Moves.set w bb i _ (by simp)
  obtain ⟨n1, n2, n3, n4⟩ := h.nb
  obtain ⟨m1, m2, m3, m4⟩ := h.nd
  obtain ⟨e1, e2, e3, e4, e5, e6⟩ := h.ne
  refine ⟨h.s.side hm h.new.2.2.1 m3 n3, h.h.keep hm (by simpa using e2), h.wt.keep hm (by simpa using e4), (h.bn.set hi _).congr (fun j _ => ?_), h.un.keep hm (by simpa using fun e => e6 (Eq.symm e)), h.new, h.ne, h.nb, h.nd⟩
  unfold fupd
  split <;> rfl
theorem Mem.setU (h : Mem W w d b hb wb bb ub l H Wt B U) {i : Nat} (hi : i < 50) (v : Int) : Mem W (w.setCell ⟨ub, i, none⟩ (.int .i64 v)) d b hb wb bb ub l H Wt B (fupd U i v) := by
  have hm : Moves [ub] w (w.setCell ⟨ub, i, none⟩ (.int .i64 v)) := Moves.set w ub i _ (by simp)
  obtain ⟨n1, n2, n3, n4⟩ := h.nb
  obtain ⟨m1, m2, m3, m4⟩ := h.nd
  obtain ⟨e1, e2, e3, e4, e5, e6⟩ := h.ne
  refine ⟨h.s.side hm h.new.2.2.2 m4 n4, h.h.keep hm (by simpa using e3), h.wt.keep hm (by simpa using e5), h.bn.keep hm (by simpa using e6), (h.un.set hi _).congr (fun j _ => ?_), h.new, h.ne, h.nb, h.nd⟩
  unfold fupd
  split <;> rfl

theorem Row.made (w : World) (A : Array Value) (v : Value) (t : TypeId) (h : A = Array.replicate 50 v) : Row (w.alloc (.cells A t)) w.heap.size (fun _ => v) := by
  have e : (w.alloc (.cells A t)).heap[w.heap.size]? = some (.cells A t (0, 0)) := (MapKept.heap_alloc w _).1
  refine ⟨fun i hi => ?_, fun i => by simp only [World.frozen?, e]; simp⟩
  simp only [World.cell?, e]
  simp [h, hi]
theorem mem_new (h : Stp W w d b 2 l) (A1 A2 A3 A4 : Array Value) (h1 : A1 = Array.replicate 50 (.bool false)) (h2 : A2 = Array.replicate 50 (.bool false)) (h3 : A3 = Array.replicate 50 (.int .i64 0)) (h4 : A4 = Array.replicate 50 (.int .i64 0)) :
    Mem W ((((w.alloc (.cells A1 43)).alloc (.cells A2 43)).alloc (.cells A3 44)).alloc (.cells A4 44)) d b w.heap.size (w.heap.size + 1) (w.heap.size + 2) (w.heap.size + 3) l (fun _ => false) (fun _ => false) (fun _ => 0) (fun _ => 0) := by
  have r1 := Row.made w A1 _ 43 h1
  have r2 := Row.made (w.alloc (.cells A1 43)) A2 _ 43 h2
  have r3 := Row.made ((w.alloc (.cells A1 43)).alloc (.cells A2 43)) A3 _ 44 h3
  have r4 := Row.made (((w.alloc (.cells A1 43)).alloc (.cells A2 43)).alloc (.cells A3 44)) A4 _ 44 h4
  have e1 : (w.alloc (.cells A1 43)).heap.size = w.heap.size + 1 := by simp
  have e2 : ((w.alloc (.cells A1 43)).alloc (.cells A2 43)).heap.size = w.heap.size + 2 := by simp
  have e3 : (((w.alloc (.cells A1 43)).alloc (.cells A2 43)).alloc (.cells A3 44)).heap.size = w.heap.size + 3 := by simp
  rw [e1] at r2
  rw [e2] at r3
  rw [e3] at r4
  have al : ∀ (x : World) (o : Obj), Below x.heap.size x (x.alloc o) := fun x o => (Below.refl _ x).alloc (Nat.le_refl _) o
  have k : ∀ {x : World} {g : Nat} {F : Nat → Value} (o : Obj), Row x g F → Row (x.alloc o) g F := fun o hr => hr.keep (Moves.of_below [] (al _ o)) List.not_mem_nil
  have hd := h.al.dlt
  have hb := h.al.map.lt
  have hW := h.bel.size
  exact ⟨(((h.grow (al _ _)).grow (al _ _)).grow (al _ _)).grow (al _ _), k _ (k _ (k _ r1)), k _ (k _ r2), k _ r3, r4, by omega, by omega, by omega, by omega⟩
theorem cell_other {g p i j : Nat} (v : Value) (h : p ≠ g) : (w.setCell ⟨g, i, none⟩ v).cell? ⟨p, j, none⟩ = w.cell? ⟨p, j, none⟩ :=
  World.cell?_setCell_other _ _ _ _ (fun e => h (by injection e with h1; exact h1.symm))
/-- a block that is newer than all of these -/
theorem Mem.apart (h : Mem W w d b hb wb bb ub l H Wt B U) {p : Nat} (hp : w.heap.size ≤ p) : p ≠ hb ∧ p ≠ wb ∧ p ≠ bb ∧ p ≠ ub ∧ p ≠ b := by
  have h1 := h.h.lt
  have h2 := h.wt.lt
  have h3 := h.bn.lt
  have h4 := h.un.lt
  have h5 := h.s.al.map.lt
  omega

/-- what the arrays tell of a sector -/
def OnceS (s : St) (H Wt : Bool) (B U : Int) : Prop := (s = none ∧ H = false ∧ Wt = false) ∨ (s = some (1, B) ∧ H = true ∧ Wt = false) ∨ (s = some (0, U) ∧ H = false ∧ Wt = true)
def Told (l : List St) (H Wt : Nat → Bool) (B U : Nat → Int) : Prop := ∀ (i : Nat) (s : St), l[i]? = some s → OnceS s (H (i + 2)) (Wt (i + 2)) (B (i + 2)) (U (i + 2))

theorem Told.new (k : Nat) : Told (List.replicate k none) (fun _ => false) (fun _ => false) (fun _ => 0) (fun _ => 0) := by
  intro i s hi
  rw [List.getElem?_replicate] at hi
  split at hi
  · cases hi
    exact .inl ⟨rfl, rfl, rfl⟩
  · cases hi
theorem Told.take (h : Told l H Wt B U) {i : Nat} (gen : Int) (hi : l[i]? = some none) : Told (l.set i (some (1, gen))) (fupd H (i + 2) true) Wt (fupd B (i + 2) gen) U := by
  intro j s hj
  rw [List.getElem?_set] at hj
  by_cases e : i = j
  · subst e
    rw [if_pos rfl, if_pos (List.getElem?_eq_some_iff.1 hi).1] at hj
    cases hj
    rw [fupd_same, fupd_same]
    rcases h i none hi with ⟨_, h1, h2⟩ | ⟨h1, _⟩ | ⟨h1, _⟩
    · exact .inr (.inl ⟨rfl, rfl, h2⟩)
    · cases h1
    · cases h1
  · rw [if_neg e] at hj
    rw [fupd_ne _ _ (by omega), fupd_ne _ _ (by omega)]
    exact h j s hj
theorem Told.drop (h : Told l H Wt B U) {i : Nat} (gen : Int) (hi : l[i]? = some (some (1, B (i + 2)))) :
    Told (l.set i (dropS gen (some (1, B (i + 2))))) (fupd H (i + 2) false) (fupd Wt (i + 2) (B (i + 2) != gen)) B (fupd U (i + 2) gen) := by
  intro j s hj
  rw [List.getElem?_set] at hj
  by_cases e : i = j
  · subst e
    rw [if_pos rfl, if_pos (List.getElem?_eq_some_iff.1 hi).1] at hj
    cases hj
    rw [fupd_same, fupd_same, fupd_same]
    have e1 : dropS gen (some (1, B (i + 2))) = if B (i + 2) = gen then none else some (0, gen) := rfl
    rw [e1]
    by_cases hg : B (i + 2) = gen
    · rw [if_pos hg, hg]
      exact .inl ⟨rfl, rfl, by simp⟩
    · rw [if_neg hg]
      exact .inr (.inr ⟨rfl, rfl, by simp [hg]⟩)
  · rw [if_neg e] at hj
    rw [fupd_ne _ _ (by omega), fupd_ne _ _ (by omega), fupd_ne _ _ (by omega)]
    exact h j s hj
theorem Told.free (h : Told l H Wt B U) (gen : Int) {Wt' : Nat → Bool} (hw : ∀ i, i < 50 → Wt' i = (Wt i && decide (gen < U i))) (hl : l.length ≤ 40) : Told (freeM l gen) H Wt' B U := by
  intro j s hj
  unfold freeM at hj
  rw [List.getElem?_map] at hj
  cases hx : l[j]? with
  | none => rw [hx] at hj; cases hj
  | some x =>
    rw [hx] at hj
    have hlt := (List.getElem?_eq_some_iff.1 hx).1
    simp at hj
    subst hj
    rw [hw _ (by omega)]
    rcases h j x hx with ⟨rfl, h1, h2⟩ | ⟨rfl, h1, h2⟩ | ⟨rfl, h1, h2⟩
    · exact .inl ⟨rfl, h1, by rw [h2]; rfl⟩
    · exact .inr (.inl ⟨rfl, h1, by rw [h2]; rfl⟩)
    · by_cases hg : U (j + 2) ≤ gen
      · exact .inl ⟨by simp [freedS, dueS, hg], h1, by simp; omega⟩
      · exact .inr (.inr ⟨by simp [freedS, dueS]; omega, h1, by rw [h2]; simp; omega⟩)
theorem Told.room (h : takeI l = none) : room l = 0 := by
  unfold Go.Proofs.Ytkfpeffiphdhmaa.room
  unfold takeI at h
  rw [List.findIdx?_eq_none_iff] at h
  rw [List.countP_eq_zero]
  intro x hx
  rw [h x hx]
  simp
end Go.Proofs.Ytkfpeffiphdhmaa
