/- Slices that came in: calls of a disk, fates. -/
import Derived.Test.YtmkmebogfcbphaaCrash
import Derived.Deep.Slices
namespace Go.Proofs.Ytmkmebogfcbphaa
open Go.ChangeShapes Go.WideShapes Go.ChangeAt Go.RowKit Go.Deep

/-- a call, as it stands in memory -/
structure Cl where
  k : Int
  n : Int
  cut : Int
  a : Nat
  b : Nat
  v : Value
  fs : List Int
def cl0 : Cl := ⟨0, 0, 0, 0, 0, .slice none 0 0, []⟩

structure ClAt (w : World) (bk o : Nat) (c : Cl) : Prop where
  c0 : w.cell? ⟨bk, o, none⟩ = some (.int .i64 c.k)
  c1 : w.cell? ⟨bk, o + 1, none⟩ = some (.int .i64 c.n)
  c2 : w.cell? ⟨bk, o + 2, none⟩ = some (.int .i64 c.cut)
  c3 : w.cell? ⟨bk, o + 3, none⟩ = some (.int .u8 (c.a : Int))
  c4 : w.cell? ⟨bk, o + 4, none⟩ = some (.int .u8 (c.b : Int))
  c5 : w.cell? ⟨bk, o + 5, none⟩ = some c.v
  ints : IsInts w c.v c.fs
  bk : -9223372036854775808 ≤ c.k ∧ c.k ≤ 9223372036854775807
  bn : -9223372036854775808 ≤ c.n ∧ c.n ≤ 9223372036854775807
  bc : -9223372036854775808 ≤ c.cut ∧ c.cut ≤ 9223372036854775807
  ba : c.a < 256
  bb : c.b < 256
  bl : c.fs.length ≤ maxLen

theorem ClAt.grow {w w' : World} {bk o B : Nat} {c : Cl} (h : ClAt w bk o c) (hb : Below B w w') (hB : w.heap.size ≤ B) : ClAt w' bk o c := by
  have hl := World.block_lt_of_cell? _ _ h.c0
  have hl' : bk < B := Nat.lt_of_lt_of_le hl hB
  exact ⟨(hb.cell hl').trans h.c0, (hb.cell hl').trans h.c1, (hb.cell hl').trans h.c2, (hb.cell hl').trans h.c3, (hb.cell hl').trans h.c4, (hb.cell hl').trans h.c5, h.ints.grow hb hB, h.bk, h.bn, h.bc, h.ba, h.bb, h.bl⟩

/-- a slice that has these calls -/
def IsCalls (w : World) (a : Option Addr) (len : Nat) (f : Nat → Cl) : Prop := len ≤ maxLen ∧ (len = 0 ∨ ∃ b off, a = some ⟨b, off, none⟩ ∧ ∀ i, i < len → ClAt w b (off + i * 6) (f i))

theorem i64_in {n : Int} (h : (Lit.int .i64 n).wf = true) : -9223372036854775808 ≤ n ∧ n ≤ 9223372036854775807 := by
  have := bounds_i64 h
  omega
theorem u8_in {n : Int} (h : (Lit.int .u8 n).wf = true) : 0 ≤ n ∧ n < 256 := by
  have := bounds_u8 h
  omega

theorem ints_in {H : Type} {enc : TypeId × Value → H} {W : World} {n : Nat} {v : Value} {x : DataW H × List MemPlace} (h : DataW.trod enc Try.prog W 0 (fun _ => true) true n 34 [v] = some x) : ∃ fs, IsInts W v fs ∧ fs.length ≤ maxLen := by
  rcases open_ints Try.underlying34 Try.underlying3 (by kernel_rfl) h with ⟨hcs, _⟩ | ⟨a, l, c, zs, hcs, _, hl, hm, hz, _, hcell, hwz⟩
  · simp at hcs
    subst hcs
    exact ⟨[], ⟨none, 0, rfl, .inl rfl⟩, Nat.zero_le _⟩
  · simp at hcs
    subst hcs
    have hzl : zs.length = c := by simpa using hz
    have htl : (zs.take l).length = l := by rw [List.length_take]; omega
    refine ⟨zs.take l, ⟨some a, c, by rw [htl], ?_⟩, by rw [htl]; omega⟩
    by_cases h0 : l = 0
    · exact .inl (by rw [h0]; rfl)
    · obtain ⟨b, off, rfl, hc⟩ := ints_at hcell (by omega)
      refine .inr ⟨b, off, rfl, World.block_lt_of_cell? _ _ (hc 0 (by omega)), fun i hi => ?_⟩
      rw [htl] at hi
      rw [hc i (by omega)]
      congr 2
      rw [List.getD_eq_getElem?_getD, List.getD_eq_getElem?_getD, List.getElem?_take, if_pos hi]

theorem ints_of {H : Type} {enc : TypeId × Value → H} {W : World} {v : Value} {d : DataW H} {p : List MemPlace} (h : DataW.Trod enc Try.prog W 0 (fun _ => true) true 34 v d p) (hv : v.cells = #[v]) : ∃ fs, IsInts W v fs ∧ fs.length ≤ maxLen := by
  obtain ⟨fuel, hf⟩ := h
  rw [hv] at hf
  exact ints_in hf

set_option maxRecDepth 100000 in
theorem calls_of {H : Type} {enc : TypeId × Value → H} {W : World} {a : Option Addr} {len cap : Nat} {d : DataW H} {p : List MemPlace} (h : DataW.Trod enc Try.prog W 0 (fun _ => true) true 22 (Value.slice a len cap) d p) : ∃ f, IsCalls W a len f := by
  obtain ⟨fuel, hf⟩ := h
  have ce : Try.prog.cellsOf 36 = 6 := by kernel_rfl
  have k3 : Try.prog.cellsOf 3 = 1 := by kernel_rfl
  have k5 : Try.prog.cellsOf 5 = 1 := by kernel_rfl
  have k34 : Try.prog.cellsOf 34 = 1 := by kernel_rfl
  rcases open_slice Try.underlying22 hf with ⟨hcs, _⟩ | ⟨x, l, c, m, n, D, Pl, hcs, _, hl, hm, hmm, _, hx⟩
  · simp [Value.cells] at hcs
    obtain ⟨rfl, rfl, rfl⟩ := hcs
    exact ⟨fun _ => cl0, Nat.zero_le _, .inl rfl⟩
  · simp [Value.cells] at hcs
    obtain ⟨rfl, rfl, rfl⟩ := hcs
    have hmc : m = cap := by simpa using hmm
    subst hmc
    by_cases h0 : len = 0
    · exact ⟨fun _ => cl0, Nat.le_trans hl hm, .inl h0⟩
    · obtain ⟨b, off, spot⟩ := x
      have hspot : spot = none := by
        obtain ⟨cs', h1, _⟩ := hx 0 (by omega)
        rw [ce] at h1
        obtain ⟨_, hlen, hcell⟩ := World.cells?_some h1
        match cs', hlen with
        | v0 :: _, _ =>
          have := hcell 0 (by omega)
          rw [List.getElem?_cons_zero] at this
          simpa [Addr.add] using World.cell?_spot this
      subst hspot
      have key : ∀ i, i < len → ∃ q : Cl, ClAt W b (off + i * 6) q := by
        intro i hi
        obtain ⟨cs', h1, h2⟩ := hx i (by omega)
        rw [ce] at h1
        obtain ⟨_, hlen, hcell⟩ := World.cells?_some h1
        obtain ⟨xs, k, hk, hxy, _, hxl, hfl⟩ := DataW.trod_struct Try.underlying36 h2
        match xs, hxl, cs', hlen with
        | [y0, y1, y2, y3, y4, y5], _, [v0, v1, v2, v3, v4, v5], _ =>
          have g0 := hfl 0 _ rfl
          have g1 := hfl 1 _ rfl
          have g2 := hfl 2 _ rfl
          have g3 := hfl 3 _ rfl
          have g4 := hfl 4 _ rfl
          have g5 := hfl 5 _ rfl
          simp [k3, k5, k34] at g0 g1 g2 g3 g4 g5
          have e0 := hcell 0 (by omega)
          have e1 := hcell 1 (by omega)
          have e2 := hcell 2 (by omega)
          have e3 := hcell 3 (by omega)
          have e4 := hcell 4 (by omega)
          have e5 := hcell 5 (by omega)
          rw [add_add, Go.WideShapes.add_plain] at e0 e1 e2 e3 e4 e5
          obtain ⟨n0, r0, _, w0⟩ := DataW.trod_int Try.underlying3 g0
          obtain ⟨n1, r1, _, w1⟩ := DataW.trod_int Try.underlying3 g1
          obtain ⟨n2, r2, _, w2⟩ := DataW.trod_int Try.underlying3 g2
          obtain ⟨n3, r3, _, w3⟩ := DataW.trod_int Try.underlying5 g3
          obtain ⟨n4, r4, _, w4⟩ := DataW.trod_int Try.underlying5 g4
          obtain ⟨fs, hfs, hfslen⟩ := ints_in g5
          simp at r0 r1 r2 r3 r4
          subst r0 r1 r2 r3 r4
          have b3 := u8_in w3
          have b4 := u8_in w4
          have t3 : ((n3.toNat : Nat) : Int) = n3 := Int.toNat_of_nonneg b3.1
          have t4 : ((n4.toNat : Nat) : Int) = n4 := Int.toNat_of_nonneg b4.1
          refine ⟨⟨n0, n1, n2, n3.toNat, n4.toNat, v5, fs⟩, ⟨e0, e1, e2, ?_, ?_, e5, hfs, i64_in w0, i64_in w1, i64_in w2, by show n3.toNat < 256; omega, by show n4.toNat < 256; omega, hfslen⟩⟩
          · show W.cell? _ = some (.int .u8 ((n3.toNat : Nat) : Int))
            rw [t3]
            exact e3
          · show W.cell? _ = some (.int .u8 ((n4.toNat : Nat) : Int))
            rw [t4]
            exact e4
      haveI : Inhabited Cl := ⟨cl0⟩
      obtain ⟨f, hf'⟩ := choose_lt key
      exact ⟨f, Nat.le_trans hl hm, .inr ⟨b, off, rfl, hf'⟩⟩
end Go.Proofs.Ytmkmebogfcbphaa
