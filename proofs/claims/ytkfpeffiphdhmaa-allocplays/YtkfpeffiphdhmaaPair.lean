/- An allocator and the document's, side by side. -/
import Derived.Test.YtkfpeffiphdhmaaRefd
import Derived.Test.YtkfpeffiphdhmaaArgs
namespace Go.Proofs.Ytkfpeffiphdhmaa
open Go.ChangeShapes Go.WideShapes Go.ChangeAt Go.RowKit

structure Pair (W w : World) (d b r g fr : Nat) (l1 l2 : List St) : Prop where
  s : Stp W w d b fr l1
  ref : RefAt w r g fr l2
  rnew : W.heap.size ≤ g
  ap : b ≠ r ∧ b ≠ g ∧ d ≠ g

variable {W w w' : World} {d b r g fr : Nat} {l1 l2 l' : List St}

theorem Pair.grow (h : Pair W w d b r g fr l1 l2) (hb : Below w.heap.size w w') : Pair W w' d b r g fr l1 l2 := ⟨h.s.grow hb, h.ref.grow hb, h.rnew, h.ap⟩
theorem Pair.first (h : Pair W w d b r g fr l1 l2) (ha : AllocAt w' d b fr l') (hm : Moves [b] w w') : Pair W w' d b r g fr l' l2 :=
  ⟨h.s.turn ha hm, h.ref.keep hm (by have := h.ap.1; simp; exact fun e => this e.symm) (by have := h.ap.2.1; simp; exact fun e => this e.symm), h.rnew, h.ap⟩
theorem Pair.second (h : Pair W w d b r g fr l1 l2) (ha : RefAt w' r g fr l') (hm : Moves [g] w w') : Pair W w' d b r g fr l1 l' :=
  ⟨⟨h.s.al.keep hm (by have := h.ap.2.2; simp; exact this) (by have := h.ap.2.1; simp; exact this), Moves.below h.s.bel hm (by simpa using h.rnew) h.s.bel.size, h.s.new⟩, ha, h.rnew, h.ap⟩
/-- a cell that is neither's -/
theorem Pair.notb (h : Pair W w d b r g fr l1 l2) {p : Nat} (hp : w.heap.size ≤ p) : p ∉ [b] ∧ p ∉ [g] := by
  have h1 := h.s.al.map.lt
  have h2 := h.ref.lt
  simp
  omega
end Go.Proofs.Ytkfpeffiphdhmaa
