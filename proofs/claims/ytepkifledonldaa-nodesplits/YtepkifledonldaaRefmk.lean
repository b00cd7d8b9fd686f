/- What a round's first statement has made so far, in whatever order. -/
import Derived.Test.YtepkifledonldaaRefstd
namespace Go.Proofs.Ytepkifledonldaa
open Go.ChangeShapes Go.WideShapes Go.ChangeAt Go.RowKit

structure Mk8 (wr : World) (its : List It) (kds : List Kd) (w : World) (om og ok : Option Nat) (r5 r9 : Option Value) : Prop where
  bel : Below wr.heap.size wr w
  m : ∀ x, om = some x → Nblk w x false none 0 0 none 0 0 ∧ wr.heap.size ≤ x
  g : ∀ x, og = some x → w.heap[x]? = some (.cells #[] 47 (0, 0)) ∧ wr.heap.size ≤ x
  k : ∀ x, ok = some x → w.heap[x]? = some (.cells #[] 49 (0, 0)) ∧ wr.heap.size ≤ x
  a5 : ∀ v, r5 = some v → w.ownsRow wr.heap.size 47 2 v its.length (pairs Value.string its)
  a9 : ∀ v, r9 = some v → w.ownsRow wr.heap.size 49 2 v kds.length (pairs kv kds)
variable {wr w w' : World} {its : List It} {kds : List Kd} {om og ok : Option Nat} {r5 r9 : Option Value}
theorem Mk8.start (wr : World) (its : List It) (kds : List Kd) : Mk8 wr its kds wr.drew none none none none none :=
  ⟨(Below.refl _ _).drew, (fun x h => by cases h), (fun x h => by cases h), (fun x h => by cases h), (fun x h => by cases h), (fun x h => by cases h)⟩
theorem Mk8.grow (h : Mk8 wr its kds w om og ok r5 r9) (hb : Below w.heap.size w w') : Mk8 wr its kds w' om og ok r5 r9 :=
  ⟨below_then h.bel hb, fun x e => ⟨(h.m x e).1.below hb, (h.m x e).2⟩, fun x e => ⟨(hb.block x (Array.getElem?_eq_some_iff.1 (h.g x e).1).1).trans (h.g x e).1, (h.g x e).2⟩, fun x e => ⟨(hb.block x (Array.getElem?_eq_some_iff.1 (h.k x e).1).1).trans (h.k x e).1, (h.k x e).2⟩,
   fun v e => ownsRow_same (h.a5 v e) (fun g hg => hb.block g (World.ownsRow.lt (h.a5 v e) g hg).2), fun v e => ownsRow_same (h.a9 v e) (fun g hg => hb.block g (World.ownsRow.lt (h.a9 v e) g hg).2)⟩
theorem Mk8.allocM (h : Mk8 wr its kds w none og ok r5 r9) : Mk8 wr its kds (w.alloc (.cells #[.bool false, .slice none 0 0, .slice none 0 0] 25)) (some w.heap.size) og ok r5 r9 :=
  have h' := h.grow (below_alloc w (.cells #[.bool false, .slice none 0 0, .slice none 0 0] 25))
  ⟨h'.bel, (fun x e => by cases e; exact ⟨Nblk.new w false none none 0 0 0 0, h.bel.size⟩), h'.g, h'.k, h'.a5, h'.a9⟩
theorem Mk8.allocG (h : Mk8 wr its kds w om none ok r5 r9) : Mk8 wr its kds (w.alloc (.cells #[] 47)) om (some w.heap.size) ok r5 r9 :=
  have h' := h.grow (below_alloc w (.cells #[] 47))
  ⟨h'.bel, h'.m, (fun x e => by cases e; exact ⟨heapNew rfl, h.bel.size⟩), h'.k, h'.a5, h'.a9⟩
theorem Mk8.allocK (h : Mk8 wr its kds w om og none r5 r9) : Mk8 wr its kds (w.alloc (.cells #[] 49)) om og (some w.heap.size) r5 r9 :=
  have h' := h.grow (below_alloc w (.cells #[] 49))
  ⟨h'.bel, h'.m, h'.g, (fun x e => by cases e; exact ⟨heapNew rfl, h.bel.size⟩), h'.a5, h'.a9⟩
theorem Mk8.app5 {g : Nat} {v : Value} (h : Mk8 wr its kds w om (some g) ok none r9) (W : Went wr w w' 47 v its.length (pairs Value.string its) g) : Mk8 wr its kds w' om none ok (some v) r9 :=
  ⟨W.below h.bel, fun x e => ⟨W.other (h.m x e).1 (by decide), (h.m x e).2⟩, (fun x e => by cases e), fun x e => ⟨W.other (h.k x e).1 (by decide), (h.k x e).2⟩, (fun v e => by cases e; exact W.own), fun v e => W.row (by decide) (h.a9 v e)⟩
theorem Mk8.app9 {g : Nat} {v : Value} (h : Mk8 wr its kds w om og (some g) r5 none) (W : Went wr w w' 49 v kds.length (pairs kv kds) g) : Mk8 wr its kds w' om og none r5 (some v) :=
  ⟨W.below h.bel, fun x e => ⟨W.other (h.m x e).1 (by decide), (h.m x e).2⟩, fun x e => ⟨W.other (h.g x e).1 (by decide), (h.g x e).2⟩, (fun x e => by cases e), fun v e => W.row (by decide) (h.a5 v e), (fun v e => by cases e; exact W.own)⟩
theorem Mk8.made {m : Nat} {ai ak : Option Addr} {ci ck : Nat} (lf : Bool) (h : Mk8 wr its kds w (some m) none none (some (.slice ai its.length ci)) (some (.slice ak kds.length ck))) :
    Made wr m lf its kds (((w.setCell ⟨m, 0, none⟩ (.bool lf)).setCell ⟨m, 1, none⟩ (.slice ai its.length ci)).setCell ⟨m, 2, none⟩ (.slice ak kds.length ck)) := by
  have hm := h.m m rfl
  have i : OwnE Value.string 47 wr.heap.size w (.slice ai its.length ci) its := h.a5 _ rfl
  have k : OwnE kv 49 wr.heap.size w (.slice ak kds.length ck) kds := h.a9 _ rfl
  have n1 := hm.1.set0 lf
  have n2 := n1.set1 ai its.length ci
  have i3 := ((i.set hm.1 (by decide) 0 (.bool lf)).set n1 (by decide) 1 (.slice ai its.length ci)).set n2 (by decide) 2 (.slice ak kds.length ck)
  have k3 := ((k.set hm.1 (by decide) 0 (.bool lf)).set n1 (by decide) 1 (.slice ai its.length ci)).set n2 (by decide) 2 (.slice ak kds.length ck)
  exact ⟨ai, ci, ak, ck, n2.set2 _ _ _, ⟨i3, k3⟩, ((h.bel.setCell (p := ⟨m, 0, none⟩) hm.2 _).setCell (p := ⟨m, 1, none⟩) hm.2 _).setCell (p := ⟨m, 2, none⟩) hm.2 _, hm.2⟩
theorem Made.bel {w w' : World} {m : Nat} {lf : Bool} {its : List It} {kds : List Kd} (h : Made w m lf its kds w') : Below w.heap.size w w' := by
  obtain ⟨_, _, _, _, _, _, h, _⟩ := h
  exact h
end Go.Proofs.Ytepkifledonldaa
