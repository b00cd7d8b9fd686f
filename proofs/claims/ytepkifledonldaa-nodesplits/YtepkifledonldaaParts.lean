/- Parts of a node in memory: a row of nodes of one's own. -/
import Derived.Test.YtepkifledonldaaCopies
namespace Go.Proofs.Ytepkifledonldaa
open Go.ChangeShapes Go.WideShapes Go.ChangeAt Go.RowKit

/-- a part: where its entries lie, and they; where its other list, an empty one, lies -/
structure Pt (β : Type) where
  a : Option Addr
  cap : Nat
  a2 : Option Addr
  cap2 : Nat
  l : List (ByteArray × β)
def pcI (p : Pt ByteArray) : List Value := [.bool true, .slice p.a p.l.length p.cap, .slice p.a2 0 p.cap2]
def pcK (p : Pt Int) : List Value := [.bool false, .slice p.a2 0 p.cap2, .slice p.a p.l.length p.cap]
structure OwnP {β : Type} (sv : β → Value) (T : TypeId) (pc : Pt β → List Value) (B : Nat) (w : World) (v : Value) (ps : List (Pt β)) : Prop where
  row : w.ownsRow B 25 3 v ps.length (ps.flatMap pc)
  its : ∀ x ∈ ps, OwnE sv T B w (.slice x.a x.l.length x.cap) x.l
variable {β : Type} {sv : β → Value} {T : TypeId} {pc : Pt β → List Value} {B : Nat} {w w' : World} {v : Value} {ps : List (Pt β)}
theorem OwnP.nil : OwnP sv T pc B w (.slice none 0 0) [] := ⟨World.ownsRow_nil _ _ _ _, fun x hx => by cases hx⟩
theorem OwnP.form (h : OwnP sv T pc B w v ps) : ∃ a cap, v = .slice a ps.length cap := ownsRow_form h.row
theorem OwnP.below (h : OwnP sv T pc B w v ps) (hb : Below w.heap.size w w') : OwnP sv T pc B w' v ps :=
  ⟨ownsRow_same h.row (fun g hg => hb.block g (World.ownsRow.lt h.row g hg).2), fun x hx => (h.its x hx).below hb⟩
theorem OwnP.other (h : OwnP sv T pc B w v ps) {r : Nat} {cs : Array Value} {t : TypeId} (hr : w.heap[r]? = some (.cells cs t (0, 0))) (ht : (25 : TypeId) ≠ t) : v.ownBlock ≠ some r := by
  intro e
  obtain ⟨cur, h0⟩ := ownsRow_kind h.row e
  rw [hr] at h0
  simp at h0
  exact ht h0.2.symm
/-- entries stay where nodes are appended -/
theorem OwnE.kept {x : List (ByteArray × β)} {u : Value} {B' : Nat} (h : OwnE sv T B' w u x) (hT : T ≠ 25) (hp : OwnP sv T pc B w v ps) (hg : w.grownBy w' v.ownBlock) : OwnE sv T B' w' u x := keepKind hp.row hg (Ne.symm hT) h
theorem OwnP.snoc {v' : Value} {x : Pt β} (h : OwnP sv T pc B w v ps) (hT : T ≠ 25) (hx : OwnE sv T B w (.slice x.a x.l.length x.cap) x.l) (hg : w.grownBy w' v.ownBlock) (hr : w'.ownsRow B 25 3 v' (ps.length + 1) (ps.flatMap pc ++ pc x)) : OwnP sv T pc B w' v' (ps ++ [x]) := by
  refine ⟨?_, fun y hy => ?_⟩
  · rw [List.length_append, List.flatMap_append]
    simpa using hr
  · rcases List.mem_append.1 hy with hy | hy
    · exact (h.its y hy).kept hT h hg
    · simp at hy
      subst hy
      exact hx.kept hT h hg
theorem flat3 {f : Pt β → List Value} (hf : ∀ x, (f x).length = 3) (ps : List (Pt β)) (i : Nat) (x : Pt β) (h : ps[i]? = some x) (j : Nat) (hj : j < 3) : (ps.flatMap f)[i * 3 + j]? = (f x)[j]? := by
  induction ps generalizing i with
  | nil => simp at h
  | cons y t ih =>
    rw [List.flatMap_cons]
    cases i with
    | zero =>
      simp at h
      subst h
      rw [List.getElem?_append_left (by rw [hf]; omega)]
      simp
    | succ i =>
      rw [List.getElem?_append_right (by rw [hf]; omega), hf]
      have e : (i + 1) * 3 + j - 3 = i * 3 + j := by omega
      rw [e]
      exact ih i (by simpa using h)
theorem OwnP.at {a : Option Addr} {n cap : Nat} (hf : ∀ x, (pc x).length = 3) (h : OwnP sv T pc B w (.slice a n cap) ps) {k : Nat} (hk : k < ps.length) : ∃ g, a = some ⟨g, 0, none⟩ ∧ B ≤ g ∧ ∀ i x, ps[i]? = some x → ∀ j, j < 3 → w.cell? ⟨g, i * 3 + j, none⟩ = (pc x)[j]? := by
  have h' := h.row
  rcases h.row.2 with ⟨e, hn⟩ | ⟨g, cap', cur, e, hB, _⟩
  · omega
  · injection e with e1 e2 e3
    subst e1 e2 e3
    refine ⟨g, rfl, hB, fun i x hx j hj => ?_⟩
    have hi : i < ps.length := (List.getElem?_eq_some_iff.1 hx).1
    rw [World.ownsRow.cellAt h' (i * 3 + j) (by omega)]
    exact flat3 hf ps i x hx j hj
theorem pcI_len (x : Pt ByteArray) : (pcI x).length = 3 := rfl
theorem pcK_len (x : Pt Int) : (pcK x).length = 3 := rfl
theorem three_one {a b c : Value} (ha : a.oneCell' = true) (hb : b.oneCell' = true) (hc : c.oneCell' = true) : ∀ u ∈ [a, b, c], u.oneCell' = true := by
  intro u hu
  simp at hu
  rcases hu with rfl | rfl | rfl
  · exact ha
  · exact hb
  · exact hc
/-- the length of a slice, as a measure -/
def lenV : Value → Nat
  | .slice _ n _ => n
  | _ => 0
theorem Row.take {a : Option Addr} {l : List (ByteArray × β)} (h : Row sv w a l) (c : Nat) : Row sv w a (l.take c) := by
  rcases h with rfl | ⟨b, off, e, hh⟩
  · exact .inl (by simp)
  · refine .inr ⟨b, off, e, fun i x hx => hh i x ?_⟩
    rw [List.getElem?_take] at hx
    split at hx
    · exact hx
    · simp at hx
theorem Row.drop {b off : Nat} {l : List (ByteArray × β)} (h : RowAt sv w b off l) (c : Nat) : RowAt sv w b (off + c * 2) (l.drop c) := by
  intro i x hx
  rw [List.getElem?_drop] at hx
  obtain ⟨c0, c1⟩ := h (c + i) x hx
  have e : off + (c + i) * 2 = off + c * 2 + i * 2 := by omega
  rw [e] at c0 c1
  exact ⟨c0, c1⟩
end Go.Proofs.Ytepkifledonldaa
