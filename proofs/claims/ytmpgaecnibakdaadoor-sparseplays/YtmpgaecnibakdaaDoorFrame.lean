/- What the rows' frames share: pieces, a step and steps that came in, a start that fits. -/
import Derived.Test.YtmpgaecnibakdaaDoorLk
import Derived.Test.YtmpgaecnibakdaaDoorCards
import Derived.Test.YtmpgaecnibakdaaDoorTie
import Derived.ShutString
import Derived.ChangeOld
import Derived.Below
import Derived.Deep.Slices
import Derived.Deep.DeepHandedRow
import Derived.Lib.SmallJoins
namespace Go.Proofs.YtmpgaecnibakdaaDoor
open Go.ChangeShapes Go.WideShapes Go.ChangeAt Go.RowKit Go.Deep

theorem own : ownKnob Tryd.prog.godebug = none := by kernel_rfl
theorem laidOut : laidOutB Tryd.prog = true := by kernel_rfl
theorem i64_in {n : Int} (h : (Lit.int .i64 n).wf = true) : -9223372036854775808 ≤ n ∧ n ≤ 9223372036854775807 := by
  have := bounds_i64 h
  omega
theorem tx_of (s : ByteArray) : s = tx (bs s) := (tx_bs s).symm
theorem range_get' {α : Type} {n : Nat} (f : Nat → α) {i : Nat} {x : α} (h : ((List.range n).map f)[i]? = some x) : i < n ∧ f i = x := by
  obtain ⟨hi, he⟩ := List.getElem?_eq_some_iff.1 h
  rw [List.length_map, List.length_range] at hi
  refine ⟨hi, ?_⟩
  rw [← he, List.getElem_map, List.getElem_range]
theorem choose_below {α : Type} [Inhabited α] {n : Nat} {P : Nat → α → Prop} (h : ∀ i, i < n → ∃ x, P i x) : ∃ f : Nat → α, ∀ i, i < n → P i (f i) := by
  refine ⟨fun i => if hi : i < n then (h i hi).choose else default, fun i hi => ?_⟩
  simp only [dif_pos hi]
  exact (h i hi).choose_spec

set_option maxRecDepth 100000 in
/-- pieces that came in -/
theorem pcs_of {H : Type} {enc : TypeId × Value → H} {W : World} {a : Option Addr} {len cap : Nat} {d : DataW H} {p : List MemPlace} (h : DataW.Trod enc Tryd.prog W 0 (fun _ => true) true 22 (Value.slice a len cap) d p) :
    ∃ l : List Pc, len = l.length ∧ Ps W a l ∧ l.length ≤ 9223372036854775807 := by
  obtain ⟨fuel, hf⟩ := h
  have ce : Tryd.prog.cellsOf 58 = 2 := by kernel_rfl
  have k3 : Tryd.prog.cellsOf 3 = 1 := by kernel_rfl
  have k9 : Tryd.prog.cellsOf 9 = 1 := by kernel_rfl
  rcases open_slice Tryd.underlying22 hf with ⟨hcs, _⟩ | ⟨x, l, c, m, n, D, Pl, hcs, _, hl, hm, hmm, _, hx⟩
  · simp [Value.cells] at hcs
    obtain ⟨rfl, rfl, rfl⟩ := hcs
    exact ⟨[], rfl, Ps.nil _ _, by simp⟩
  · simp [Value.cells] at hcs
    obtain ⟨rfl, rfl, rfl⟩ := hcs
    have hmc : m = cap := by simpa using hmm
    subst hmc
    have hlb : len ≤ 9223372036854775807 := by unfold maxLen at hm; omega
    by_cases h0 : len = 0
    · exact ⟨[], h0, Ps.nil _ _, by simp⟩
    · obtain ⟨b, off, spot⟩ := x
      have hspot : spot = none := by
        obtain ⟨cs', h1, _⟩ := hx 0 (by omega)
        rw [ce] at h1
        obtain ⟨_, hlen, hcell⟩ := World.cells?_some h1
        match cs', hlen with
        | v0 :: _, _ =>
          have := hcell 0 (by omega)
          rw [List.getElem?_cons_zero] at this
          simpa [Addr.add] using World.cell?_spot this
      subst hspot
      have key : ∀ i, i < len → ∃ q : Pc, W.cell? ⟨b, off + i * 2, none⟩ = some (ixV q) ∧ W.cell? ⟨b, off + (i * 2 + 1), none⟩ = some (daV q) := by
        intro i hi
        obtain ⟨cs', h1, h2⟩ := hx i (by omega)
        rw [ce] at h1
        obtain ⟨_, hlen, hcell⟩ := World.cells?_some h1
        obtain ⟨xs, k, hk, hxy, _, hxl, hfl⟩ := DataW.trod_struct Tryd.underlying58 h2
        match xs, hxl, cs', hlen with
        | [y0, y1], _, [v0, v1], _ =>
          have g0 := hfl 0 _ rfl
          have g1 := hfl 1 _ rfl
          simp [k3, k9] at g0 g1
          have e0 := hcell 0 (by omega)
          have e1 := hcell 1 (by omega)
          rw [add_add, Go.WideShapes.add_plain] at e0 e1
          obtain ⟨n0, r0, _, w0⟩ := DataW.trod_int Tryd.underlying3 g0
          obtain ⟨s1, r1, _, w1⟩ := DataW.trod_string Tryd.underlying9 g1
          simp at r0 r1
          subst r0 r1
          refine ⟨(n0, bs s1), ?_, ?_⟩
          · simpa [ixV] using e0
          · unfold daV
            rw [tx_bs]
            simpa using e1
      haveI : Inhabited Pc := ⟨(0, [])⟩
      obtain ⟨f, hf⟩ := choose_below key
      refine ⟨(List.range len).map f, by simp, .inr ⟨b, off, rfl, World.block_lt_of_cell? _ _ (hf 0 (by omega)).1, fun i x hx' => ?_⟩, by simpa using hlb⟩
      obtain ⟨hi, rfl⟩ := range_get' f hx'
      exact hf i hi
/-- a step -/
structure Stp where
  k : Int
  o : Int
  n : Int
  d : List UInt8
structure Stp.Ok (s : Stp) : Prop where
  k : I64 s.k
  o : I64 s.o
  n : I64 s.n
  d : s.d.length ≤ 9223372036854775807
theorem cells24 : Tryd.prog.cellsOf 24 = 4 := by kernel_rfl
theorem d_len {s : ByteArray} (h : s.size ≤ maxLen) : (bs s).length ≤ 9223372036854775807 := by unfold maxLen at h; rw [bs_len]; exact h
set_option maxRecDepth 100000 in
theorem step_of {H : Type} {enc : TypeId × Value → H} {W : World} {base : Nat} {v : Value} {d : DataW H} {p : List MemPlace} (hv : Value.okWide Tryd.prog W .any base 24 v) (h : DataW.Trod enc Tryd.prog W 0 (fun _ => true) true 24 v d p) :
    ∃ s : Stp, v = .agg #[.int .i64 s.k, .int .i64 s.o, .int .i64 s.n, .string (tx s.d)] ∧ s.Ok := by
  obtain ⟨c0, c1, c2, c3, y0, y1, y2, y3, m, rfl, rfl, rfl, h0, h1, h2, h3⟩ := Joins.open_agg4 Tryd.underlying24 (by kernel_rfl) cells24 hv h
  obtain ⟨K, e0, _, w0⟩ := DataW.trod_int Tryd.underlying3 h0
  obtain ⟨G, e1, _, w1⟩ := DataW.trod_int Tryd.underlying3 h1
  obtain ⟨N, e2, _, w2⟩ := DataW.trod_int Tryd.underlying3 h2
  obtain ⟨P, e3, _, w3⟩ := DataW.trod_string Tryd.underlying9 h3
  simp at e0 e1 e2 e3
  subst e0 e1 e2 e3
  exact ⟨⟨K, G, N, bs P⟩, by rw [tx_bs], ⟨i64_in w0, i64_in w1, i64_in w2, d_len w3⟩⟩
/-- a step in memory -/
def StAt (W : World) (b o : Nat) (s : Stp) : Prop := W.cell? ⟨b, o, none⟩ = some (.int .i64 s.k) ∧ W.cell? ⟨b, o + 1, none⟩ = some (.int .i64 s.o) ∧ W.cell? ⟨b, o + 2, none⟩ = some (.int .i64 s.n) ∧ W.cell? ⟨b, o + 3, none⟩ = some (.string (tx s.d))
def Sts (W : World) (a : Option Addr) (l : List Stp) : Prop := l.length = 0 ∨ ∃ b off, a = some ⟨b, off, none⟩ ∧ ∀ i x, l[i]? = some x → StAt W b (off + i * 4) x
theorem Sts.below {w w' : World} {a : Option Addr} {l : List Stp} (h : Sts w a l) (hb : Below w.heap.size w w') : Sts w' a l := by
  rcases h with h | ⟨b, off, e, h⟩
  · exact .inl h
  · refine .inr ⟨b, off, e, fun i x hx => ?_⟩
    obtain ⟨c0, c1, c2, c3⟩ := h i x hx
    exact ⟨cell_keep c0 hb, cell_keep c1 hb, cell_keep c2 hb, cell_keep c3 hb⟩
set_option maxRecDepth 100000 in
theorem steps_of {H : Type} {enc : TypeId × Value → H} {W : World} {a : Option Addr} {len cap : Nat} {d : DataW H} {p : List MemPlace} (h : DataW.Trod enc Tryd.prog W 0 (fun _ => true) true 54 (Value.slice a len cap) d p) :
    ∃ l : List Stp, len = l.length ∧ Sts W a l ∧ (∀ s ∈ l, s.Ok) ∧ l.length ≤ 9223372036854775807 := by
  obtain ⟨fuel, hf⟩ := h
  have ce : Tryd.prog.cellsOf 24 = 4 := cells24
  have k3 : Tryd.prog.cellsOf 3 = 1 := by kernel_rfl
  have k9 : Tryd.prog.cellsOf 9 = 1 := by kernel_rfl
  rcases open_slice Tryd.underlying54 hf with ⟨hcs, _⟩ | ⟨x, l, c, m, n, D, Pl, hcs, _, hl, hm, hmm, _, hx⟩
  · simp [Value.cells] at hcs
    obtain ⟨rfl, rfl, rfl⟩ := hcs
    exact ⟨[], rfl, .inl rfl, by simp, by simp⟩
  · simp [Value.cells] at hcs
    obtain ⟨rfl, rfl, rfl⟩ := hcs
    have hmc : m = cap := by simpa using hmm
    subst hmc
    have hlb : len ≤ 9223372036854775807 := by unfold maxLen at hm; omega
    by_cases h0 : len = 0
    · exact ⟨[], h0, .inl rfl, by simp, by simp⟩
    · obtain ⟨b, off, spot⟩ := x
      have hspot : spot = none := by
        obtain ⟨cs', h1, _⟩ := hx 0 (by omega)
        rw [ce] at h1
        obtain ⟨_, hlen, hcell⟩ := World.cells?_some h1
        match cs', hlen with
        | v0 :: _, _ =>
          have := hcell 0 (by omega)
          rw [List.getElem?_cons_zero] at this
          simpa [Addr.add] using World.cell?_spot this
      subst hspot
      have key : ∀ i, i < len → ∃ q : Stp, StAt W b (off + i * 4) q ∧ q.Ok := by
        intro i hi
        obtain ⟨cs', h1, h2⟩ := hx i (by omega)
        rw [ce] at h1
        obtain ⟨_, hlen, hcell⟩ := World.cells?_some h1
        obtain ⟨xs, k, hk, hxy, _, hxl, hfl⟩ := DataW.trod_struct Tryd.underlying24 h2
        match xs, hxl, cs', hlen with
        | [y0, y1, y2, y3], _, [v0, v1, v2, v3], _ =>
          have g0 := hfl 0 _ rfl
          have g1 := hfl 1 _ rfl
          have g2 := hfl 2 _ rfl
          have g3 := hfl 3 _ rfl
          simp [k3, k9] at g0 g1 g2 g3
          have e0 := hcell 0 (by omega)
          have e1 := hcell 1 (by omega)
          have e2 := hcell 2 (by omega)
          have e3 := hcell 3 (by omega)
          rw [add_add, Go.WideShapes.add_plain] at e0 e1 e2 e3
          obtain ⟨n0, r0, _, w0⟩ := DataW.trod_int Tryd.underlying3 g0
          obtain ⟨n1, r1, _, w1⟩ := DataW.trod_int Tryd.underlying3 g1
          obtain ⟨n2, r2, _, w2⟩ := DataW.trod_int Tryd.underlying3 g2
          obtain ⟨s3, r3, _, w3⟩ := DataW.trod_string Tryd.underlying9 g3
          simp at r0 r1 r2 r3
          subst r0 r1 r2 r3
          refine ⟨⟨n0, n1, n2, bs s3⟩, ⟨?_, ?_, ?_, ?_⟩, ⟨i64_in w0, i64_in w1, i64_in w2, d_len w3⟩⟩
          · simpa using e0
          · simpa [Nat.add_assoc] using e1
          · simpa [Nat.add_assoc] using e2
          · show _ = some (Value.string (tx (bs s3)))
            rw [tx_bs]
            simpa [Nat.add_assoc] using e3
      haveI : Inhabited Stp := ⟨⟨0, 0, 0, []⟩⟩
      obtain ⟨f, hf⟩ := choose_below key
      refine ⟨(List.range len).map f, by simp, .inr ⟨b, off, rfl, fun i x hx' => ?_⟩, ?_, by simpa using hlb⟩
      · obtain ⟨hi, rfl⟩ := range_get' f hx'
        exact (hf i hi).1
      · intro s hs
        obtain ⟨i, hi, rfl⟩ := List.mem_map.1 hs
        exact (hf i (List.mem_range.1 hi)).2
/-- the library's two tables, for a start that fits -/
def rangeN : List Nat := [128, 191, 160, 191, 128, 159, 144, 191, 128, 143] ++ List.replicate 22 0
def firstN : List Nat := List.replicate 128 240 ++ List.replicate 66 241 ++ List.replicate 30 2 ++ [19] ++ List.replicate 12 3 ++ [35] ++ List.replicate 2 3 ++ [52] ++ List.replicate 3 4 ++ [68] ++ List.replicate 11 241
end Go.Proofs.YtmpgaecnibakdaaDoor
