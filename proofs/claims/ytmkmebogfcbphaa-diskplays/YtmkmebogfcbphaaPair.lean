/- A disk and the document's, side by side; a call of both. -/
import Derived.Test.YtmkmebogfcbphaaReff
import Derived.Test.YtmkmebogfcbphaaRefg
import Derived.Test.YtmkmebogfcbphaaLong
namespace Go.Proofs.Ytmkmebogfcbphaa
open Go.ChangeShapes Go.WideShapes Go.ChangeAt Go.RowKit

structure Pair (W w : World) (d r : Nat) (m1 m2 : Dk) (k : Nat) (fp rp : List Nat) : Prop where
  s : Stp W w d m1 k fp
  ref : IsRef w r m2 rp
  rnew : ∀ x ∈ rp, W.heap.size ≤ x
  ap : ∀ x ∈ fp, x ∉ rp

variable {W w w' : World} {d r : Nat} {m1 m2 : Dk} {k : Nat} {fp rp : List Nat}

theorem IsDisk.few {m : Dk} {c : Nat} (h : IsDisk w d m c fp) : m.op.length ≤ c := by
  obtain ⟨fb, lb, ov, h, _⟩ := h
  obtain ⟨F, nf, _, h1, _⟩ := h.fl
  omega
theorem Pair.grow (h : Pair W w d r m1 m2 k fp rp) (hb : Below w.heap.size w w') : Pair W w' d r m1 m2 k fp rp :=
  ⟨h.s.grow hb, h.ref.grow hb, h.rnew, h.ap⟩
theorem Pair.mono {k' : Nat} (h : Pair W w d r m1 m2 k fp rp) (hk : k ≤ k') : Pair W w d r m1 m2 k' fp rp := ⟨h.s.mono hk, h.ref, h.rnew, h.ap⟩
theorem Pair.first (h : Pair W w d r m1 m2 k fp rp) {m' : Dk} {k' : Nat} (ht : Turned w w' d m' k' fp) : ∃ fp', Pair W w' d r m' m2 k' fp' rp := by
  obtain ⟨fp', h1, h2, h3⟩ := ht
  refine ⟨fp', ⟨h1, Moves.below h.s.bel h2 h.s.new h.s.bel.size, fun x hx => ?_⟩, h.ref.keep h2 (fun x hx hy => h.ap x hy hx), h.rnew, fun x hx hy => ?_⟩
  · rcases h3 x hx with h4 | h4
    · exact h.s.new x h4
    · exact Nat.le_trans h.s.bel.size h4
  · rcases h3 x hx with h4 | h4
    · exact h.ap x h4 hy
    · have := h.ref.lt x hy
      omega
theorem RTurned.moves {m : Dk} (h : RTurned w w' r m rp) : Moves rp w w' := by
  obtain ⟨_, _, hm, _⟩ := h
  exact hm
theorem Pair.second (h : Pair W w d r m1 m2 k fp rp) {m' : Dk} (ht : RTurned w w' r m' rp) : ∃ rp', Pair W w' d r m1 m' k fp rp' := by
  obtain ⟨rp', h1, h2, h3⟩ := ht
  refine ⟨rp', ⟨h.s.disk.keep h2 h.ap, Moves.below h.s.bel h2 h.rnew h.s.bel.size, h.s.new⟩, h1, fun x hx => ?_, fun x hx hy => ?_⟩
  · rcases h3 x hx with h4 | h4
    · exact h.rnew x h4
    · exact Nat.le_trans h.s.bel.size h4
  · rcases h3 x hy with h4 | h4
    · exact h.ap x hx h4
    · have := h.s.disk.lt x hx
      omega
/-- two new ones -/
theorem Pair.fresh {w1 w2 : World} {d' r' : Nat} {m1' m2' : Dk} {k' : Nat} {fp' rp' : List Nat} (hW : Below W.heap.size W w) (h1 : IsDisk w1 d' m1' k' fp') (hb1 : Below w.heap.size w w1) (hx1 : ∀ x ∈ fp', w.heap.size ≤ x)
    (h2 : IsRef w2 r' m2' rp') (hb2 : Below w1.heap.size w1 w2) (hx2 : ∀ x ∈ rp', w1.heap.size ≤ x) : Pair W w2 d' r' m1' m2' k' fp' rp' :=
  ⟨Stp.grow ⟨h1, hW.trans (hb1.mono hW.size), fun x hx => Nat.le_trans hW.size (hx1 x hx)⟩ hb2, h2, fun x hx => Nat.le_trans hW.size (Nat.le_trans hb1.size (hx2 x hx)), fun x hx hy => by
    have := h1.lt x hx
    have := hx2 x hy
    omega⟩

/-- the bytes of a write that may be cut -/
def cutS (c : Int) : ByteArray := strOf (List.replicate (min (max c 0) 2000).toNat 0)
/-- what a call makes of a disk -/
def stepP (m : Dk) (c : Cl) : Dk :=
  if c.k = 0 then writeM m c.n (dataS c.a c.b) else if c.k = 1 then flushM m else if c.k = 2 then m else if c.k = 3 then powerM m c.n else if c.k = 4 then crashM m c.fs else if c.k = 5 then m else writeM m c.n (cutS c.cut)

theorem stepP_length (m : Dk) (c : Cl) : (stepP m c).old.length = m.old.length := by
  have hw : ∀ n D, (writeM m n D).old.length = m.old.length := by
    intro n D
    unfold writeM
    split
    · rfl
    · split
      · rfl
      · split
        · rfl
        · split <;> rfl
  unfold stepP
  split
  · exact hw _ _
  · split
    · unfold flushM
      split
      · rfl
      · split
        · rfl
        · exact flushL_length _ _
    · split
      · rfl
      · split
        · unfold powerM
          split <;> rfl
        · split
          · exact crashL_length _ _
          · split
            · rfl
            · exact hw _ _
end Go.Proofs.Ytmkmebogfcbphaa
