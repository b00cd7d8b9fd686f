/- Texts that the proof needs, one behind the other. -/
import Derived.Test.YtlmgmdnmghgkbaaGreatDoorMaa
import Derived.Test.YtlmgmdnmghgkbaaGreatDoorCards
import Derived.Test.YtlmgmdnmghgkbaaGreatDoorTie
import Derived.ShutString
import Derived.ChangeOld
import Derived.Below
import Derived.Deep.DeepHandedRow
import Derived.Lib.LaidTab
import Derived.Lib.SmallJoins
import Derived.Test.YtlmgmdnmghgkbaaGreatDoorMad
import Derived.Deep.Slices
import Derived.Deep.SlicePairs
import Derived.Test.YtlmgmdnmghgkbaaGreatDoorMan
/- What the rows' frames share: the tables that the rows list, a start that fits. -/
namespace Go.Proofs.YtlmgmdnmghgkbaaGreatDoor
open Go.ChangeShapes Go.WideShapes Go.ChangeAt Go.RowKit

theorem i64_of {a : Int} (h : (Lit.int .i64 a).wf = true) : L5.I64 a := by
  have h2 : -9223372036854775808 ≤ a ∧ a ≤ 9223372036854775807 := by simpa [Lit.wf, IntKind.min, IntKind.max, IntKind.signed, IntKind.bits] using h
  exact h2
theorem own : ownKnob Tryz.prog.godebug = none := by kernel_rfl
theorem laidOut : laidOutB Tryz.prog = true := by kernel_rfl
/-- the name of the table, as the rows give it -/
def tabName : String := Rows.heapPlaysRow.named.headD Rows.heapPlaysRow.func
theorem gTab : Tryz.prog.globalNamed tabName = some 0 := by kernel_rfl
theorem gTabType : (Tryz.prog.globals[0]?).map (·.type) = some 366 := by kernel_rfl
theorem cells238 : Tryz.prog.cellsOf 366 = 16 := by kernel_rfl
theorem cells169 : Tryz.prog.cellsOf 240 = 1 := by kernel_rfl
theorem table {W : World} (h : laidMetH Tryz.prog Rows.heapPlaysRow.laid W) : L4.Tab W := by
  have t : Lib.TabIs Tryz.prog W tabName .u32 (L4.Crc.tabN.map fun n : Nat => (n : Int)) :=
    Lib.tabIs_of_head (rest := Rows.heapPlaysRow.laid.tail) gTab gTabType Tryz.underlying366 Tryz.underlying240 cells169 cells238 h
  intro i hi
  have c := t.cell gTab i (by simpa [L4.Crc.tabN] using hi)
  rw [c]
  have e : ∀ j : Fin 16, (L4.Crc.tabN.map fun n : Nat => (n : Int)).getD j.val 0 = (L4.Crc.tab j.val : Int) := by decide
  rw [e ⟨i, hi⟩]


/-- the library's two tables, for a start that fits -/
def firstN : List Nat := List.replicate 128 240 ++ List.replicate 66 241 ++ List.replicate 30 2 ++ [19] ++ List.replicate 12 3 ++ [35] ++ List.replicate 2 3 ++ [52] ++ List.replicate 3 4 ++ [68] ++ List.replicate 11 241
def rangeN : List Nat := [128, 191, 160, 191, 128, 159, 144, 191, 128, 143] ++ List.replicate 22 0
end Go.Proofs.YtlmgmdnmghgkbaaGreatDoor

/- Nodes that came in. -/
namespace Go.Proofs.YtlmgmdnmghgkbaaGreatDoor.L6
open Go.ChangeShapes Go.WideShapes Go.ChangeAt Go.RowKit Go.Deep Go.Joins

theorem range_get {α : Type} (f : Nat → α) {len i : Nat} {x : α} (h : ((List.range len).map f)[i]? = some x) : i < len ∧ x = f i := by
  rw [List.getElem?_map] at h
  by_cases hi : i < len
  · rw [List.getElem?_range hi] at h
    simp at h
    exact ⟨hi, h.symm⟩
  · rw [List.getElem?_eq_none (by simpa using hi)] at h
    simp at h

theorem its_in {H : Type} {enc : TypeId × Value → H} {W : World} {n : Nat} {v : Value} {x : DataW H × List MemPlace} (h : DataW.trod enc Tryz.prog W 0 (fun _ => true) true n 40 [v] = some x) :
    ∃ (a : Option Addr) (cap : Nat) (l : List It), v = .slice a l.length cap ∧ Row Value.string W a l ∧ l.length ≤ maxLen := by
  rcases open_slice_pairs Tryz.underlying40 Tryz.underlying126 (by kernel_rfl) rfl rfl (by kernel_rfl) (by kernel_rfl) h with ⟨hcs, _⟩ | ⟨a, len, cap, m, n, V0, V1, D0, D1, P0, P1, hcs, _, hl, hm, hmm, _, hx⟩
  · simp at hcs
    subst hcs
    exact ⟨none, 0, [], rfl, .inl rfl, Nat.zero_le _⟩
  · simp at hcs
    subst hcs
    have hmc : m = cap := by simpa using hmm
    subst hmc
    have key : ∀ i, i < len → ∃ q : It, W.cell? (a.add (i * 2)) = some (.string q.1) ∧ W.cell? (a.add (i * 2 + 1)) = some (.string q.2) := by
      intro i hi
      obtain ⟨c0, c1, t0, t1⟩ := hx i (by omega)
      obtain ⟨k0, e0, _⟩ := DataW.trod_string Tryz.underlying9 t0
      obtain ⟨k1, e1, _⟩ := DataW.trod_string Tryz.underlying9 t1
      simp at e0 e1
      rw [e0] at c0
      rw [e1] at c1
      exact ⟨(k0, k1), c0, c1⟩
    haveI : Inhabited It := ⟨(⟨#[]⟩, ⟨#[]⟩)⟩
    obtain ⟨f, hf⟩ := choose_lt key
    refine ⟨some a, m, (List.range len).map f, by simp, ?_, by simp; omega⟩
    by_cases h0 : len = 0
    · exact .inl (by rw [h0]; rfl)
    · obtain ⟨b, off, spot⟩ := a
      have hspot : spot = none := by simpa [Addr.add] using World.cell?_spot (hf 0 (by omega)).1
      subst hspot
      refine .inr ⟨b, off, rfl, fun i x hx' => ?_⟩
      obtain ⟨hi, rfl⟩ := range_get f hx'
      obtain ⟨c0, c1⟩ := hf i hi
      rw [Go.WideShapes.add_plain] at c0 c1
      exact ⟨c0, by rw [← Nat.add_assoc] at c1; exact c1⟩

theorem kds_in {H : Type} {enc : TypeId × Value → H} {W : World} {n : Nat} {v : Value} {x : DataW H × List MemPlace} (h : DataW.trod enc Tryz.prog W 0 (fun _ => true) true n 41 [v] = some x) :
    ∃ (a : Option Addr) (cap : Nat) (l : List Kd), v = .slice a l.length cap ∧ Row kv W a l ∧ l.length ≤ maxLen := by
  rcases open_slice_pairs Tryz.underlying41 Tryz.underlying153 (by kernel_rfl) rfl rfl (by kernel_rfl) (by kernel_rfl) h with ⟨hcs, _⟩ | ⟨a, len, cap, m, n, V0, V1, D0, D1, P0, P1, hcs, _, hl, hm, hmm, _, hx⟩
  · simp at hcs
    subst hcs
    exact ⟨none, 0, [], rfl, .inl rfl, Nat.zero_le _⟩
  · simp at hcs
    subst hcs
    have hmc : m = cap := by simpa using hmm
    subst hmc
    have key : ∀ i, i < len → ∃ q : Kd, W.cell? (a.add (i * 2)) = some (.string q.1) ∧ W.cell? (a.add (i * 2 + 1)) = some (.int .i64 q.2) := by
      intro i hi
      obtain ⟨c0, c1, t0, t1⟩ := hx i (by omega)
      obtain ⟨k0, e0, _⟩ := DataW.trod_string Tryz.underlying9 t0
      obtain ⟨k1, e1, _⟩ := DataW.trod_int Tryz.underlying3 t1
      simp at e0 e1
      rw [e0] at c0
      rw [e1] at c1
      exact ⟨(k0, k1), c0, c1⟩
    haveI : Inhabited Kd := ⟨(⟨#[]⟩, 0)⟩
    obtain ⟨f, hf⟩ := choose_lt key
    refine ⟨some a, m, (List.range len).map f, by simp, ?_, by simp; omega⟩
    by_cases h0 : len = 0
    · exact .inl (by rw [h0]; rfl)
    · obtain ⟨b, off, spot⟩ := a
      have hspot : spot = none := by simpa [Addr.add] using World.cell?_spot (hf 0 (by omega)).1
      subst hspot
      refine .inr ⟨b, off, rfl, fun i x hx' => ?_⟩
      obtain ⟨hi, rfl⟩ := range_get f hx'
      obtain ⟨c0, c1⟩ := hf i hi
      rw [Go.WideShapes.add_plain] at c0 c1
      exact ⟨c0, by rw [← Nat.add_assoc] at c1; exact c1⟩

end Go.Proofs.YtlmgmdnmghgkbaaGreatDoor.L6

/- Calls that came in. -/
namespace Go.Proofs.YtlmgmdnmghgkbaaGreatDoor
open Go.ChangeShapes Go.WideShapes Go.ChangeAt Go.RowKit Go.Deep

theorem under_irow {W : World} {a : Option Addr} {l : List Int} (h : Irow W a l) : l = [] ∨ Under W.heap.size a := by
  rcases h with h | ⟨b, off, e, hh⟩
  · exact .inl h
  · by_cases hl : l = []
    · exact .inl hl
    · right
      intro x hx
      rw [e] at hx
      injection hx with hx
      rw [← hx]
      obtain ⟨y, hy⟩ : ∃ y, l[0]? = some y := ⟨_, List.getElem?_eq_getElem (List.length_pos_iff.2 hl)⟩
      exact World.block_lt_of_cell? _ _ (hh 0 y hy)
theorem under_row {β : Type} {sv : β → Value} {W : World} {a : Option Addr} {l : List (ByteArray × β)} (h : L6.Row sv W a l) : l = [] ∨ Under W.heap.size a := by
  rcases h with h | ⟨b, off, e, hh⟩
  · exact .inl h
  · by_cases hl : l = []
    · exact .inl hl
    · right
      intro x hx
      rw [e] at hx
      injection hx with hx
      rw [← hx]
      obtain ⟨y, hy⟩ : ∃ y, l[0]? = some y := ⟨_, List.getElem?_eq_getElem (List.length_pos_iff.2 hl)⟩
      exact World.block_lt_of_cell? _ _ (hh 0 y hy).1
theorem ints_in {H : Type} {enc : TypeId × Value → H} {W : World} {n : Nat} {v : Value} {x : DataW H × List MemPlace} (h : DataW.trod enc Tryz.prog W 0 (fun _ => true) true n 39 [v] = some x) : ∃ (a : Option Addr) (cap : Nat) (l : List Int), v = .slice a l.length cap ∧ Irow W a l ∧ l.length ≤ maxLen := by
  rcases open_ints Tryz.underlying39 Tryz.underlying3 (by kernel_rfl) h with ⟨hcs, _⟩ | ⟨a, l, c, zs, hcs, _, hl, hm, hz, _, hcell, hwz⟩
  · simp at hcs
    subst hcs
    exact ⟨none, 0, [], rfl, .inl rfl, Nat.zero_le _⟩
  · simp at hcs
    subst hcs
    have hzl : zs.length = c := by simpa using hz
    have htl : (zs.take l).length = l := by rw [List.length_take]; omega
    refine ⟨some a, c, zs.take l, by rw [htl], ?_, by rw [htl]; omega⟩
    by_cases h0 : l = 0
    · exact .inl (by rw [h0]; rfl)
    · obtain ⟨b, off, rfl, hc⟩ := ints_at hcell (by omega)
      refine .inr ⟨b, off, rfl, fun i x hx => ?_⟩
      obtain ⟨hi, hxe⟩ := List.getElem?_eq_some_iff.1 hx
      rw [htl] at hi
      rw [hc i (by omega)]
      congr 2
      rw [← hxe, List.getElem_take, List.getD_eq_getElem?_getD, List.getElem?_eq_getElem (by omega)]
      rfl
set_option maxRecDepth 100000 in
theorem calls_of {H : Type} {enc : TypeId × Value → H} {W : World} {a : Option Addr} {len cap : Nat} {d : DataW H} {p : List MemPlace} (h : DataW.Trod enc Tryz.prog W 0 (fun _ => true) true 22 (Value.slice a len cap) d p) : ∃ l : List Cl, len = l.length ∧ Cls W.heap.size W a l ∧ l.length ≤ maxLen := by
  obtain ⟨fuel, hf⟩ := h
  have ce : Tryz.prog.cellsOf 45 = 6 := by kernel_rfl
  have k3 : Tryz.prog.cellsOf 3 = 1 := by kernel_rfl
  have k4 : Tryz.prog.cellsOf 4 = 1 := by kernel_rfl
  have k39 : Tryz.prog.cellsOf 39 = 1 := by kernel_rfl
  have k43 : Tryz.prog.cellsOf 43 = 3 := by kernel_rfl
  have k40 : Tryz.prog.cellsOf 40 = 1 := by kernel_rfl
  have k41 : Tryz.prog.cellsOf 41 = 1 := by kernel_rfl
  rcases open_slice Tryz.underlying22 hf with ⟨hcs, _⟩ | ⟨x, l, c, m, n, D, Pl, hcs, _, hl, hm, hmm, _, hx⟩
  · simp [Value.cells] at hcs
    obtain ⟨rfl, rfl, rfl⟩ := hcs
    exact ⟨[], rfl, .inl rfl, Nat.zero_le _⟩
  · simp [Value.cells] at hcs
    obtain ⟨rfl, rfl, rfl⟩ := hcs
    have hmc : m = cap := by simpa using hmm
    subst hmc
    by_cases h0 : len = 0
    · exact ⟨[], h0, .inl rfl, Nat.zero_le _⟩
    · obtain ⟨b, off, spot⟩ := x
      have hspot : spot = none := by
        obtain ⟨cs', h1, _⟩ := hx 0 (by omega)
        rw [ce] at h1
        obtain ⟨_, hlen, hcell⟩ := World.cells?_some h1
        match cs', hlen with
        | v0 :: _, _ =>
          have := hcell 0 (by omega)
          rw [List.getElem?_cons_zero] at this
          simpa [Addr.add] using World.cell?_spot this
      subst hspot
      have key : ∀ i, i < len → ∃ q : Cl, ∃ a1 c1 ai ci ak ck, ClAt W.heap.size W q a1 ai ak ∧ ∀ j v, (clV q a1 c1 ai ci ak ck)[j]? = some v → W.cell? ⟨b, off + i * 6 + j, none⟩ = some v := by
        intro i hi
        obtain ⟨cs', h1, h2⟩ := hx i (by omega)
        rw [ce] at h1
        obtain ⟨_, hlen, hcell⟩ := World.cells?_some h1
        obtain ⟨xs, k, hk, hxy, _, hxl, hfl⟩ := DataW.trod_struct Tryz.underlying45 h2
        match xs, hxl, cs', hlen with
        | [y0, y1, y2, y3], _, [v0, v1, v2, v3, v4, v5], _ =>
          have g0 := hfl 0 _ rfl
          have g1 := hfl 1 _ rfl
          have g2 := hfl 2 _ rfl
          have g3 := hfl 3 _ rfl
          simp [k3, k39, k43] at g0 g1 g2 g3
          obtain ⟨xs', k', hk', hxy', _, hxl', hfl'⟩ := DataW.trod_struct Tryz.underlying43 g3
          match xs', hxl' with
          | [z0, z1, z2], _ =>
            have q0 := hfl' 0 _ rfl
            have q1 := hfl' 1 _ rfl
            have q2 := hfl' 2 _ rfl
            simp [k4, k40, k41] at q0 q1 q2
            have e0 := hcell 0 (by omega)
            have e1 := hcell 1 (by omega)
            have e2 := hcell 2 (by omega)
            have e3 := hcell 3 (by omega)
            have e4 := hcell 4 (by omega)
            have e5 := hcell 5 (by omega)
            rw [add_add, Go.WideShapes.add_plain] at e0 e1 e2 e3 e4 e5
            obtain ⟨n0, r0, _, w0⟩ := DataW.trod_int Tryz.underlying3 g0
            obtain ⟨n1, r1, _, w1⟩ := DataW.trod_int Tryz.underlying3 g1
            obtain ⟨a1, c1, ks, rfl, hks, hkl⟩ := ints_in g2
            obtain ⟨lf, r3, _⟩ := DataW.trod_bool Tryz.underlying4 q0
            obtain ⟨ai, ci, its, rfl, hit, hil⟩ := L6.its_in q1
            obtain ⟨ak, ck, kds, rfl, hkd, hdl⟩ := L6.kds_in q2
            simp at r0 r1 r3
            subst r0 r1 r3
            refine ⟨⟨n0, n1, ks, ⟨lf, its, kds⟩⟩, a1, c1, ai, ci, ak, ck, ⟨hks, ⟨hit, hkd⟩, under_irow hks, under_row hit, under_row hkd, ⟨hkl, hil, hdl⟩, ⟨i64_of w1, i64_of w0⟩⟩, fun j v hv => ?_⟩
            match j, hv with
            | 0, hv => simp [clV] at hv; subst hv; exact e0
            | 1, hv => simp [clV] at hv; subst hv; exact e1
            | 2, hv => simp [clV] at hv; subst hv; exact e2
            | 3, hv => simp [clV] at hv; subst hv; exact e3
            | 4, hv => simp [clV] at hv; subst hv; exact e4
            | 5, hv => simp [clV] at hv; subst hv; exact e5
            | j + 6, hv => simp [clV] at hv
      haveI : Inhabited Cl := ⟨⟨0, 0, [], L6.nd0⟩⟩
      obtain ⟨f, hf⟩ := choose_lt key
      refine ⟨(List.range len).map f, by simp, .inr ⟨b, off, rfl, ?_, fun i x hx' => ?_⟩, by simp; omega⟩
      · obtain ⟨a1, c1, ai, ci, ak, ck, _, h2⟩ := hf 0 (by omega)
        exact World.block_lt_of_cell? _ _ (h2 0 _ rfl)
      · obtain ⟨hi, rfl⟩ := L6.range_get f hx'
        exact hf i hi
end Go.Proofs.YtlmgmdnmghgkbaaGreatDoor
