/- The writer of a node's entries: what it puts. -/
import Derived.Test.YtepkifledonldaaRight
import Derived.Test.YtepkifledonldaaShort
import Derived.Lib.AppendStr
namespace Go.Proofs.Ytepkifledonldaa
open Go.ChangeShapes Go.WideShapes Go.ChangeAt Go.RowKit

theorem strCells_bn (s : ByteArray) : Lib.strCells s = cells (bn s) := by
  unfold Lib.strCells cells bn
  rw [List.map_map]
  rfl
theorem Own.shape {B : Nat} {w : World} {v : Value} {l : List Nat} (h : Own B w v l) : ∃ a cap, v = .slice a l.length cap := by
  rcases h.2 with ⟨rfl, hn⟩ | ⟨g, cap, cur, e, _⟩
  · exact ⟨none, 0, by rw [hn]⟩
  · exact ⟨_, _, e⟩
/-- rows of bytes aside, nothing but one block has turned -/
structure Turned (r : Nat) (w w' : World) : Prop where
  size : w.heap.size ≤ w'.heap.size
  block : ∀ k, k < w.heap.size → k ≠ r → (∀ cs, w.heap[k]? ≠ some (.cells cs 5 (0, 0))) → w'.heap[k]? = w.heap[k]?
theorem Turned.refl (r : Nat) (w : World) : Turned r w w := ⟨Nat.le_refl _, fun _ _ _ _ => rfl⟩
theorem Turned.of {r : Nat} {w w' : World} (h : Below w.heap.size w w') : Turned r w w' := ⟨h.size, fun k hk _ _ => h.block k hk⟩
theorem Turned.trans {r : Nat} {a b c : World} (h : Turned r a b) (k : Turned r b c) : Turned r a c :=
  ⟨Nat.le_trans h.size k.size, fun i hi hr hn => by
    have e := h.block i hi hr hn
    rw [k.block i (Nat.lt_of_lt_of_le hi h.size) hr (fun cs => by rw [e]; exact hn cs), e]⟩
theorem Turned.get {r p : Nat} {w w' : World} (h : Turned r w w') (hp : p ≠ r) {cs : Array Value} {t : TypeId} (ht : t ≠ 5) (hh : w.heap[p]? = some (.cells cs t (0, 0))) : w'.heap[p]? = some (.cells cs t (0, 0)) := by
  rw [h.block p (lt_of_block hh) hp (fun cs' => by rw [hh]; intro e; injection e with e; injection e with _ e _; exact ht e), hh]
theorem two_cell0 {w : World} {p : Nat} {a b : Value} {t : TypeId} (h : w.heap[p]? = some (.cells #[a, b] t (0, 0))) : w.cell? ⟨p, 0, none⟩ = some a := by simp [World.cell?, h]
theorem two_cell1 {w : World} {p : Nat} {a b : Value} {t : TypeId} (h : w.heap[p]? = some (.cells #[a, b] t (0, 0))) : w.cell? ⟨p, 1, none⟩ = some b := by simp [World.cell?, h]
theorem two_free {w : World} {p : Nat} {a b : Value} {t : TypeId} (h : w.heap[p]? = some (.cells #[a, b] t (0, 0))) (j : Nat) : w.frozen? ⟨p, j, none⟩ = false := by simp [World.frozen?, h]
theorem two_set0 {w : World} {p : Nat} {a b : Value} {t : TypeId} (h : w.heap[p]? = some (.cells #[a, b] t (0, 0))) (u : Value) : (w.setCell ⟨p, 0, none⟩ u).heap[p]? = some (.cells #[u, b] t (0, 0)) := by simp [World.setCell, Array.getElem?_modify, h]
theorem two_set1 {w : World} {p : Nat} {a b : Value} {t : TypeId} (h : w.heap[p]? = some (.cells #[a, b] t (0, 0))) (u : Value) : (w.setCell ⟨p, 1, none⟩ u).heap[p]? = some (.cells #[a, u] t (0, 0)) := by simp [World.setCell, Array.getElem?_modify, h]

/-- the writer in memory: so many entries, these bytes -/
def Wr (B : Nat) (w : World) (r c : Nat) (l : List Nat) : Prop := B ≤ r ∧ ∃ v, w.heap[r]? = some (.cells #[.int .i64 (c : Int), v] 71 (0, 0)) ∧ Own B w v l
/-- what a call of the writer's does to memory -/
def Put (B r : Nat) (w w' : World) : Prop := Below B w w' ∧ Turned r w w'
theorem Put.refl (B r : Nat) (w : World) : Put B r w w := ⟨Below.refl _ _, Turned.refl _ _⟩
theorem Put.trans {B r : Nat} {a b c : World} (h : Put B r a b) (k : Put B r b c) : Put B r a c := ⟨h.1.trans k.1, h.2.trans k.2⟩
theorem Put.of {B r : Nat} {w w' : World} (hB : B ≤ w.heap.size) (h : Below w.heap.size w w') : Put B r w w' := ⟨h.mono hB, .of h⟩
theorem Own.below {B : Nat} {w w' : World} {v : Value} {l : List Nat} (h : Own B w v l) (hb : Below w.heap.size w w') : Own B w' v l :=
  World.ownsRow.kept h (row := none) ⟨hb.os, hb.tape, hb.output, hb.size, fun k hk _ => hb.block k hk⟩ (by cases v.ownBlock <;> simp)
theorem Wr.below {B r c : Nat} {w w' : World} {l : List Nat} (h : Wr B w r c l) (hb : Below w.heap.size w w') : Wr B w' r c l := by
  obtain ⟨h1, v, h2, h3⟩ := h
  exact ⟨h1, v, (hb.block r (lt_of_block h2)).trans h2, h3.below hb⟩
theorem Wr.lt {B r c : Nat} {w : World} {l : List Nat} (h : Wr B w r c l) : r < w.heap.size := by
  obtain ⟨_, v, h2, _⟩ := h
  exact lt_of_block h2
theorem Own.notr {B r : Nat} {w : World} {v : Value} {l : List Nat} {cs : Array Value} (h : Own B w v l) (hr : w.heap[r]? = some (.cells cs 71 (0, 0))) : v.ownBlock ≠ some r := by
  rcases h.2 with ⟨rfl, _⟩ | ⟨g, cap, cur, rfl, _, hg, _⟩
  · simp [Value.ownBlock]
  · intro e
    simp [Value.ownBlock] at e
    subst e
    rw [hg] at hr
    simp at hr
/-- the own row of bytes is one -/
theorem Own.rowOf {B : Nat} {w : World} {v : Value} {l : List Nat} (h : Own B w v l) {k : Nat} (hk : v.ownBlock = some k) : ∃ cs, w.heap[k]? = some (.cells cs 5 (0, 0)) := by
  rcases h.2 with ⟨rfl, _⟩ | ⟨g, cap, cur, rfl, _, hg, _⟩
  · simp [Value.ownBlock] at hk
  · simp [Value.ownBlock] at hk
    subst hk
    exact ⟨_, hg⟩

/-- behind the append and the two stores -/
theorem Wr.put {B r c : Nat} {w w2 : World} {v v' : Value} {l : List Nat} {s : ByteArray} (hB : B ≤ r) (h : w.heap[r]? = some (.cells #[.int .i64 (c : Int), v] 71 (0, 0))) (ho : Own B w v l)
    (h2 : w2.ownsRow B 5 1 v' (l.length + s.size) (cells l ++ Lib.strCells s)) (hg : (w.setCell ⟨r, 0, none⟩ (.int .i64 ((c : Int) + 1))).grownBy w2 v.ownBlock) :
    Wr B (w2.setCell ⟨r, 1, none⟩ v') r (c + 1) (l ++ bn s) ∧ Put B r w (w2.setCell ⟨r, 1, none⟩ v') := by
  have hr := lt_of_block h
  have hn := ho.notr h
  have e1 : (w.setCell ⟨r, 0, none⟩ (.int .i64 ((c : Int) + 1))).heap[r]? = some (.cells #[.int .i64 ((c : Int) + 1), v] 71 (0, 0)) := two_set0 h _
  have hz : (w.setCell ⟨r, 0, none⟩ (.int .i64 ((c : Int) + 1))).heap.size = w.heap.size := by simp [World.setCell]
  have e2 : w2.heap[r]? = some (.cells #[.int .i64 ((c : Int) + 1), v] 71 (0, 0)) := (hg.block r (by rw [hz]; exact hr) hn.symm).trans e1
  have ho2 : Own B w2 v' (l ++ bn s) := by
    unfold Own
    rw [List.length_append, bn_length, cells_append, ← strCells_bn]
    exact h2
  refine ⟨⟨hB, v', ?_, ?_⟩, ?_, ?_⟩
  · have := two_set1 e2 v'
    rw [this]
    norm_cast
  · exact ownsRow_setCell_other ho2 (ho2.notr e2) v'
  · refine Below.setCell ?_ hB v'
    refine ((Below.refl B w).setCell hB _).grown hg ?_ ?_
    · rw [hz]; omega
    · intro k hk
      exact (World.ownsRow.lt ho k hk).1
  · refine ⟨?_, fun k hk hkr hu => ?_⟩
    · have := hg.size
      rw [hz] at this
      simpa [World.setCell] using this
    · have hk2 : v.ownBlock ≠ some k := fun e => by
        obtain ⟨cs, hcs⟩ := ho.rowOf e
        exact hu cs hcs
      rw [Below.heap_setCell _ _ _ _ hkr, hg.block k (by rw [hz]; exact hk) hk2.symm, Below.heap_setCell _ _ _ _ hkr]
theorem Own.set {B r : Nat} {w : World} {v : Value} {l : List Nat} {cs : Array Value} (h : Own B w v l) (hr : w.heap[r]? = some (.cells cs 71 (0, 0))) (u : Value) : Own B (w.setCell ⟨r, 0, none⟩ u) v l :=
  ownsRow_setCell_other h (h.notr hr) u
end Go.Proofs.Ytepkifledonldaa
