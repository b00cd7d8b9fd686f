/- Stores into what a law has made itself. -/
import Derived.Test.YtknlgclbdoencaaDoorInv
namespace Go.Proofs.YtknlgclbdoencaaDoor
open Go.ChangeShapes Go.WideShapes Go.ChangeAt Go.RowKit

theorem cells_set (l : List Nat) (k n : Nat) : cells (l.set k n) = (cells l).set k (.int .u8 (n : Int)) := by simp [cells, List.map_set]

theorem grown_set (w : World) (g j : Nat) (u : Value) : w.grownBy (w.setCell ⟨g, j, none⟩ u) (some g) :=
  ⟨rfl, rfl, rfl, by simp, fun k _ hne => Below.heap_setCell w ⟨g, j, none⟩ u k (fun e => hne (by rw [e]))⟩

/-- a store into what is one's own -/
theorem Own.set {B : Nat} {w : World} {g cap n : Nat} {l : List Nat} (h : Own B w (.slice (some ⟨g, 0, none⟩) n cap) l) (hn : n = l.length) (k v : Nat) :
    Own B (w.setCell ⟨g, k, none⟩ (.int .u8 (v : Int))) (.slice (some ⟨g, 0, none⟩) n cap) (l.set k v) := by
  subst hn
  unfold Own
  rw [List.length_set, cells_set]
  exact (World.ownsRow.stored h k _).1
/-- a store elsewhere -/
theorem Own.other {B : Nat} {w : World} {g g' cap n j : Nat} {l : List Nat} {u : Value} (h : Own B w (.slice (some ⟨g, 0, none⟩) n cap) l) (hne : g ≠ g') :
    Own B (w.setCell ⟨g', j, none⟩ u) (.slice (some ⟨g, 0, none⟩) n cap) l :=
  World.ownsRow.kept h (grown_set w g' j u) (.inr (fun e => hne (by simpa [Value.ownBlock] using e)))

theorem Own.at {B : Nat} {w : World} {g cap n : Nat} {l : List Nat} (h : Own B w (.slice (some ⟨g, 0, none⟩) n cap) l) (hn : n = l.length) (k : Nat) (hk : k < l.length) :
    w.cell? ⟨g, k, none⟩ = some (.int .u8 (l.getD k 0 : Nat)) ∧ w.frozen? ⟨g, k, none⟩ = false := by
  subst hn
  refine ⟨?_, World.ownsRow.frozenAt h k⟩
  rw [World.ownsRow.cellAt h k (by omega)]
  simp [cells, List.getElem?_eq_getElem hk]
theorem Own.some {B : Nat} {w : World} {a : Option Addr} {n cap : Nat} {l : List Nat} (h : Own B w (.slice a n cap) l) (hn : 0 < l.length) :
    ∃ g, a = some ⟨g, 0, none⟩ ∧ n = l.length ∧ l.length ≤ cap ∧ ∀ i, i < l.length → w.cell? ⟨g, i, none⟩ = .some (.int .u8 (l.getD i 0 : Nat)) := by
  have h' := h
  obtain ⟨_, ⟨e, h0⟩ | ⟨g, c, cur, e, _, _, hc, _⟩⟩ := h
  · omega
  · injection e with e1 e2 e3
    subst e1 e2 e3
    refine ⟨g, rfl, rfl, hc, fun i hi => ?_⟩
    rw [World.ownsRow.cellAt h' i (by omega)]
    simp [cells, List.getElem?_eq_getElem hi]

/-- the law's own copy, of bytes that are not none: where it lies -/
theorem own_new {w : World} {v : Value} {l : List Nat} (W : World) (hW : W.heap.size ≤ w.heap.size) (hb : Byt w v l) (hlen : l.length ≤ 8192) (h0 : 0 < l.length) :
    Calls Tryd.prog 11 #[v] w fun e w' => ∃ g cap, e = .returned (.slice (some ⟨g, 0, none⟩) l.length cap) ∧ w.heap.size ≤ g ∧ g < w'.heap.size ∧ Own W.heap.size w' (.slice (some ⟨g, 0, none⟩) l.length cap) l ∧ Below w.heap.size w w' := by
  refine (own_any v l w hlen hb).mono ?_
  rintro e w' ⟨v', rfl, hown, hbel⟩
  obtain ⟨a, cap, rfl⟩ := hown.byt.form
  obtain ⟨g, rfl, _, _, _⟩ := hown.some h0
  have lt := World.ownsRow.lt hown g rfl
  exact ⟨g, cap, rfl, lt.1, lt.2, hown.mono hW, hbel⟩
end Go.Proofs.YtknlgclbdoencaaDoor
