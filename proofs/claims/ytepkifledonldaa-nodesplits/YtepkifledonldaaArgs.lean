/- Nodes that came in. -/
import Derived.Test.YtepkifledonldaaLawwrites
import Derived.Deep.Slices
import Derived.Deep.SlicePairs
import Derived.Lib.SmallJoins
namespace Go.Proofs.Ytepkifledonldaa
open Go.ChangeShapes Go.WideShapes Go.ChangeAt Go.RowKit Go.Deep Go.Joins

theorem range_get {α : Type} (f : Nat → α) {len i : Nat} {x : α} (h : ((List.range len).map f)[i]? = some x) : i < len ∧ x = f i := by
  rw [List.getElem?_map] at h
  by_cases hi : i < len
  · rw [List.getElem?_range hi] at h
    simp at h
    exact ⟨hi, h.symm⟩
  · rw [List.getElem?_eq_none (by simpa using hi)] at h
    simp at h

theorem its_in {H : Type} {enc : TypeId × Value → H} {W : World} {n : Nat} {v : Value} {x : DataW H × List MemPlace} (h : DataW.trod enc Try.prog W 0 (fun _ => true) true n 22 [v] = some x) :
    ∃ (a : Option Addr) (cap : Nat) (l : List It), v = .slice a l.length cap ∧ Row Value.string W a l ∧ l.length ≤ maxLen := by
  rcases open_slice_pairs Try.underlying22 Try.underlying47 (by kernel_rfl) rfl rfl (by kernel_rfl) (by kernel_rfl) h with ⟨hcs, _⟩ | ⟨a, len, cap, m, n, V0, V1, D0, D1, P0, P1, hcs, _, hl, hm, hmm, _, hx⟩
  · simp at hcs
    subst hcs
    exact ⟨none, 0, [], rfl, .inl rfl, Nat.zero_le _⟩
  · simp at hcs
    subst hcs
    have hmc : m = cap := by simpa using hmm
    subst hmc
    have key : ∀ i, i < len → ∃ q : It, W.cell? (a.add (i * 2)) = some (.string q.1) ∧ W.cell? (a.add (i * 2 + 1)) = some (.string q.2) := by
      intro i hi
      obtain ⟨c0, c1, t0, t1⟩ := hx i (by omega)
      obtain ⟨k0, e0, _⟩ := DataW.trod_string Try.underlying9 t0
      obtain ⟨k1, e1, _⟩ := DataW.trod_string Try.underlying9 t1
      simp at e0 e1
      rw [e0] at c0
      rw [e1] at c1
      exact ⟨(k0, k1), c0, c1⟩
    haveI : Inhabited It := ⟨(⟨#[]⟩, ⟨#[]⟩)⟩
    obtain ⟨f, hf⟩ := choose_lt key
    refine ⟨some a, m, (List.range len).map f, by simp, ?_, by simp; omega⟩
    by_cases h0 : len = 0
    · exact .inl (by rw [h0]; rfl)
    · obtain ⟨b, off, spot⟩ := a
      have hspot : spot = none := by simpa [Addr.add] using World.cell?_spot (hf 0 (by omega)).1
      subst hspot
      refine .inr ⟨b, off, rfl, fun i x hx' => ?_⟩
      obtain ⟨hi, rfl⟩ := range_get f hx'
      obtain ⟨c0, c1⟩ := hf i hi
      rw [Go.WideShapes.add_plain] at c0 c1
      exact ⟨c0, by rw [← Nat.add_assoc] at c1; exact c1⟩

theorem kds_in {H : Type} {enc : TypeId × Value → H} {W : World} {n : Nat} {v : Value} {x : DataW H × List MemPlace} (h : DataW.trod enc Try.prog W 0 (fun _ => true) true n 23 [v] = some x) :
    ∃ (a : Option Addr) (cap : Nat) (l : List Kd), v = .slice a l.length cap ∧ Row kv W a l ∧ l.length ≤ maxLen := by
  rcases open_slice_pairs Try.underlying23 Try.underlying49 (by kernel_rfl) rfl rfl (by kernel_rfl) (by kernel_rfl) h with ⟨hcs, _⟩ | ⟨a, len, cap, m, n, V0, V1, D0, D1, P0, P1, hcs, _, hl, hm, hmm, _, hx⟩
  · simp at hcs
    subst hcs
    exact ⟨none, 0, [], rfl, .inl rfl, Nat.zero_le _⟩
  · simp at hcs
    subst hcs
    have hmc : m = cap := by simpa using hmm
    subst hmc
    have key : ∀ i, i < len → ∃ q : Kd, W.cell? (a.add (i * 2)) = some (.string q.1) ∧ W.cell? (a.add (i * 2 + 1)) = some (.int .i64 q.2) := by
      intro i hi
      obtain ⟨c0, c1, t0, t1⟩ := hx i (by omega)
      obtain ⟨k0, e0, _⟩ := DataW.trod_string Try.underlying9 t0
      obtain ⟨k1, e1, _⟩ := DataW.trod_int Try.underlying3 t1
      simp at e0 e1
      rw [e0] at c0
      rw [e1] at c1
      exact ⟨(k0, k1), c0, c1⟩
    haveI : Inhabited Kd := ⟨(⟨#[]⟩, 0)⟩
    obtain ⟨f, hf⟩ := choose_lt key
    refine ⟨some a, m, (List.range len).map f, by simp, ?_, by simp; omega⟩
    by_cases h0 : len = 0
    · exact .inl (by rw [h0]; rfl)
    · obtain ⟨b, off, spot⟩ := a
      have hspot : spot = none := by simpa [Addr.add] using World.cell?_spot (hf 0 (by omega)).1
      subst hspot
      refine .inr ⟨b, off, rfl, fun i x hx' => ?_⟩
      obtain ⟨hi, rfl⟩ := range_get f hx'
      obtain ⟨c0, c1⟩ := hf i hi
      rw [Go.WideShapes.add_plain] at c0 c1
      exact ⟨c0, by rw [← Nat.add_assoc] at c1; exact c1⟩

theorem cells25 : Try.prog.cellsOf 25 = 3 := by kernel_rfl
set_option maxRecDepth 100000 in
theorem node_of {H : Type} {enc : TypeId × Value → H} {W : World} {b0 : Nat} {v : Value} {d : DataW H} {p : List MemPlace} (hv : Value.okWide Try.prog W .any b0 25 v) (h : DataW.Trod enc Try.prog W 0 (fun _ => true) true 25 v d p) :
    ∃ (n : Nd) (ai ak : Option Addr) (ci ck : Nat), v = .agg #[.bool n.leaf, .slice ai n.its.length ci, .slice ak n.kds.length ck] ∧ Has W n ai ak ∧ Lens n := by
  obtain ⟨v0, v1, v2, y0, y1, y2, m, rfl, _, _, h0, h1, h2⟩ := open_agg3 Try.underlying25 (by kernel_rfl) cells25 hv h
  obtain ⟨b, e0, _⟩ := DataW.trod_bool Try.underlying4 h0
  obtain ⟨ai, ci, its, rfl, hi, hil⟩ := its_in h1
  obtain ⟨ak, ck, kds, rfl, hk, hkl⟩ := kds_in h2
  simp at e0
  subst e0
  exact ⟨⟨b, its, kds⟩, ai, ak, ci, ck, rfl, ⟨hi, hk⟩, hil, hkl⟩
end Go.Proofs.Ytepkifledonldaa
