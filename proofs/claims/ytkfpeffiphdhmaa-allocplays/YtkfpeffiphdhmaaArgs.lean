/- Slices that came in: calls of an allocator. -/
import Derived.Test.YtkfpeffiphdhmaaKit
import Derived.Deep.Slices
namespace Go.Proofs.Ytkfpeffiphdhmaa
open Go.ChangeShapes Go.WideShapes Go.ChangeAt Go.RowKit Go.Deep

/-- a call, as it stands in memory -/
structure Cl where
  k : Int
  n : Int
  g : Int
def cl0 : Cl := ⟨0, 0, 0⟩

structure ClAt (w : World) (bk o : Nat) (c : Cl) : Prop where
  c0 : w.cell? ⟨bk, o, none⟩ = some (.int .i64 c.k)
  c1 : w.cell? ⟨bk, o + 1, none⟩ = some (.int .i64 c.n)
  c2 : w.cell? ⟨bk, o + 2, none⟩ = some (.int .i64 c.g)
  bk : I64 c.k
  bn : I64 c.n
  bg : I64 c.g

theorem ClAt.grow {w w' : World} {bk o B : Nat} {c : Cl} (h : ClAt w bk o c) (hb : Below B w w') (hB : w.heap.size ≤ B) : ClAt w' bk o c := by
  have hl := World.block_lt_of_cell? _ _ h.c0
  have hl' : bk < B := Nat.lt_of_lt_of_le hl hB
  exact ⟨(hb.cell hl').trans h.c0, (hb.cell hl').trans h.c1, (hb.cell hl').trans h.c2, h.bk, h.bn, h.bg⟩

/-- a slice that has these calls -/
def IsCalls (w : World) (a : Option Addr) (len : Nat) (f : Nat → Cl) : Prop := len ≤ maxLen ∧ (len = 0 ∨ ∃ b off, a = some ⟨b, off, none⟩ ∧ ∀ i, i < len → ClAt w b (off + i * 3) (f i))
theorem IsCalls.grow {w w' : World} {a : Option Addr} {len B : Nat} {f : Nat → Cl} (h : IsCalls w a len f) (hb : Below B w w') (hB : w.heap.size ≤ B) : IsCalls w' a len f :=
  ⟨h.1, h.2.imp id (fun ⟨b, off, e, hh⟩ => ⟨b, off, e, fun i hi => (hh i hi).grow hb hB⟩)⟩

theorem i64_in {n : Int} (h : (Lit.int .i64 n).wf = true) : I64 n := by
  have := bounds_i64 h
  unfold I64
  omega

set_option maxRecDepth 100000 in
theorem calls_of {H : Type} {enc : TypeId × Value → H} {W : World} {a : Option Addr} {len cap : Nat} {d : DataW H} {p : List MemPlace} (h : DataW.Trod enc Try.prog W 0 (fun _ => true) true 22 (Value.slice a len cap) d p) : ∃ f, IsCalls W a len f := by
  obtain ⟨fuel, hf⟩ := h
  have ce : Try.prog.cellsOf 32 = 3 := by kernel_rfl
  have k3 : Try.prog.cellsOf 3 = 1 := by kernel_rfl
  rcases open_slice Try.underlying22 hf with ⟨hcs, _⟩ | ⟨x, l, c, m, n, D, Pl, hcs, _, hl, hm, hmm, _, hx⟩
  · simp [Value.cells] at hcs
    obtain ⟨rfl, rfl, rfl⟩ := hcs
    exact ⟨fun _ => cl0, Nat.zero_le _, .inl rfl⟩
  · simp [Value.cells] at hcs
    obtain ⟨rfl, rfl, rfl⟩ := hcs
    have hmc : m = cap := by simpa using hmm
    subst hmc
    by_cases h0 : len = 0
    · exact ⟨fun _ => cl0, Nat.le_trans hl hm, .inl h0⟩
    · obtain ⟨b, off, spot⟩ := x
      have hspot : spot = none := by
        obtain ⟨cs', h1, _⟩ := hx 0 (by omega)
        rw [ce] at h1
        obtain ⟨_, hlen, hcell⟩ := World.cells?_some h1
        match cs', hlen with
        | v0 :: _, _ =>
          have := hcell 0 (by omega)
          rw [List.getElem?_cons_zero] at this
          simpa [Addr.add] using World.cell?_spot this
      subst hspot
      have key : ∀ i, i < len → ∃ q : Cl, ClAt W b (off + i * 3) q := by
        intro i hi
        obtain ⟨cs', h1, h2⟩ := hx i (by omega)
        rw [ce] at h1
        obtain ⟨_, hlen, hcell⟩ := World.cells?_some h1
        obtain ⟨xs, k, hk, hxy, _, hxl, hfl⟩ := DataW.trod_struct Try.underlying32 h2
        match xs, hxl, cs', hlen with
        | [y0, y1, y2], _, [v0, v1, v2], _ =>
          have g0 := hfl 0 _ rfl
          have g1 := hfl 1 _ rfl
          have g2 := hfl 2 _ rfl
          simp [k3] at g0 g1 g2
          have e0 := hcell 0 (by omega)
          have e1 := hcell 1 (by omega)
          have e2 := hcell 2 (by omega)
          rw [add_add, Go.WideShapes.add_plain] at e0 e1 e2
          obtain ⟨n0, r0, _, w0⟩ := DataW.trod_int Try.underlying3 g0
          obtain ⟨n1, r1, _, w1⟩ := DataW.trod_int Try.underlying3 g1
          obtain ⟨n2, r2, _, w2⟩ := DataW.trod_int Try.underlying3 g2
          simp at r0 r1 r2
          subst r0 r1 r2
          exact ⟨⟨n0, n1, n2⟩, ⟨e0, e1, e2, i64_in w0, i64_in w1, i64_in w2⟩⟩
      haveI : Inhabited Cl := ⟨cl0⟩
      obtain ⟨f, hf'⟩ := choose_lt key
      exact ⟨f, Nat.le_trans hl hm, .inr ⟨b, off, rfl, hf'⟩⟩
end Go.Proofs.Ytkfpeffiphdhmaa
