/- Sectors in a map: what a map of the program holds, sector by sector. -/
import Derived.Test.YtmkmebogfcbphaaKit
import Derived.Maps.OwnSet
import Derived.Maps.Ext
import Derived.Shelf.SlMaps.Clone
import Derived.Shelf.SlMaps.Copy
namespace Go.Proofs.Ytmkmebogfcbphaa
open Go.ChangeShapes Go.WideShapes Go.ChangeAt Go.RowKit Go.Maps

/-- how a sector in a map reads -/
def secR : Value → Option (DataW Unit × List MemPlace)
  | .agg cs => match cs.toList with
    | [.string s] => if s.size ≤ maxLen then some (.lit (.string s.data.toList), []) else none
    | _ => none
  | _ => none
theorem secR_mk {s : ByteArray} (h : s.size ≤ maxLen) : secR (.agg #[.string s]) = some (.lit (.string s.data.toList), []) := by
  simp [secR, h]
theorem secR_inv {v : Value} {z : DataW Unit × List MemPlace} (h : secR v = some z) : ∃ s : ByteArray, v = .agg #[.string s] ∧ z = (.lit (.string s.data.toList), []) ∧ s.size ≤ maxLen := by
  unfold secR at h
  split at h
  · rename_i cs
    split at h
    · rename_i s hs
      split at h
      · rename_i hle
        cases h
        refine ⟨s, ?_, rfl, hle⟩
        rw [← Array.toArray_toList (xs := cs), hs]
      · cases h
    · cases h
  · cases h

theorem law3 : Keyed Try.prog 3 := int_keyed Try.underlying3
theorem zero71 (w : World) : (zeroValue 71).run Try.prog w = .ok (.agg #[.string ByteArray.empty]) w := by kernel_rfl
theorem key3 {n : Int} (h0 : 0 ≤ n) (h1 : n < 4096) : keyOf Try.prog 3 (.int .i64 n) = some (.int .i64 n) := keyOf_int_mk Try.underlying3 (WalkArith.wf_i64 (by omega))

/-- block b is a map of at most k sectors, and holds these -/
def Sec (w : World) (b k : Nat) (f : Nat → Option ByteArray) : Prop :=
  ∃ D, w.ownsMap Try.prog 3 secR b k D ∧ ∀ i : Nat, i < 4096 → (Maps.has D (.int .i64 (i : Int)) = (f i).isSome ∧ ∀ s, f i = some s → ∀ z, D.atKey (.int .i64 (i : Int)) z = .lit (.string s.data.toList))

theorem Sec.lt {w : World} {b k : Nat} {f : Nat → Option ByteArray} (h : Sec w b k f) : b < w.heap.size := by
  obtain ⟨D, h, _⟩ := h
  exact h.lt
theorem Sec.mono {w : World} {b k k' : Nat} {f : Nat → Option ByteArray} (h : Sec w b k f) (hk : k ≤ k') : Sec w b k' f := by
  obtain ⟨D, h, r⟩ := h
  exact ⟨D, h.mono hk, r⟩
theorem Sec.same {w w' : World} {b k : Nat} {f : Nat → Option ByteArray} (h : Sec w b k f) (hb : w'.heap[b]? = w.heap[b]?) : Sec w' b k f := by
  obtain ⟨D, ⟨es, clock, h1, r1⟩, r⟩ := h
  exact ⟨D, ⟨es, clock, hb.trans h1, r1⟩, r⟩
theorem Sec.kind {w : World} {b k : Nat} {f : Nat → Option ByteArray} (h : Sec w b k f) : ∃ es clock, w.heap[b]? = some (.map es clock) := by
  obtain ⟨D, ⟨es, clock, h1, _⟩, _⟩ := h
  exact ⟨es, clock, h1⟩
theorem Sec.made (w : World) : Sec (w.alloc (.map #[] 0)) w.heap.size 0 (fun _ => none) :=
  ⟨_, World.ownsMap_made w Try.prog 3 secR, fun i _ => ⟨rfl, fun s h => by cases h⟩⟩

theorem data_inj {s t : ByteArray} (h : s.data.toList = t.data.toList) : s = t := ByteArray.ext (Array.toList_inj.1 h)

/-- a sector that is there -/
theorem Sec.look {w : World} {b k : Nat} {f : Nat → Option ByteArray} (h : Sec w b k f) {n : Int} (h0 : 0 ≤ n) (h1 : n < 4096) {s : ByteArray} (hf : f n.toNat = some s) :
    (Instr.lookup 55 (.map (some b)) (.int .i64 n) true).run Try.prog w = .ok (.tuple #[.agg #[.string s], .bool true]) w := by
  obtain ⟨D, hown, hr⟩ := h
  obtain ⟨v, ps, hrun, hv⟩ := hown.look_ok law3 Try.underlying55 (zero71 w) (secR_mk (s := ByteArray.empty) (by decide)) (key3 h0 h1)
  have e : ((n.toNat : Nat) : Int) = n := Int.toNat_of_nonneg h0
  have h2 := hr n.toNat (by omega)
  rw [e] at h2
  obtain ⟨t, rfl, ht, _⟩ := secR_inv hv
  rw [h2.2 s hf] at ht
  have ht1 : s.data.toList = t.data.toList := congrArg (fun z => match z.1 with | DataW.lit (.string l) => l | _ => []) ht
  rw [hrun, h2.1, hf, data_inj ht1]
  rfl
theorem Sec.look_none {w : World} {b k : Nat} {f : Nat → Option ByteArray} (h : Sec w b k f) {n : Int} (h0 : 0 ≤ n) (h1 : n < 4096) (hf : f n.toNat = none) :
    (Instr.lookup 55 (.map (some b)) (.int .i64 n) true).run Try.prog w = .ok (.tuple #[.agg #[.string ByteArray.empty], .bool false]) w := by
  obtain ⟨D, hown, hr⟩ := h
  obtain ⟨v, ps, hrun, hv⟩ := hown.look_ok law3 Try.underlying55 (zero71 w) (secR_mk (s := ByteArray.empty) (by decide)) (key3 h0 h1)
  have e : ((n.toNat : Nat) : Int) = n := Int.toNat_of_nonneg h0
  have h2 := hr n.toNat (by omega)
  rw [e, hf] at h2
  have hn : Maps.has D (.int .i64 n) = false := h2.1
  obtain ⟨t, rfl, ht, _⟩ := secR_inv hv
  rw [Maps.atKey_of_not_has hn] at ht
  have ht1 : ByteArray.empty.data.toList = t.data.toList := congrArg (fun z => match z.1 with | DataW.lit (.string l) => l | _ => []) ht
  rw [hrun, hn, ← data_inj ht1]

def put (f : Nat → Option ByteArray) (n : Nat) (s : ByteArray) : Nat → Option ByteArray := fun i => if i = n then some s else f i

theorem Sec.store {w : World} {b k : Nat} {f : Nat → Option ByteArray} (h : Sec w b k f) {n : Int} (h0 : 0 ≤ n) (h1 : n < 4096) (s : ByteArray) (hs : s.size ≤ maxLen) (hk : k < maxLen) :
    ∃ w', (Instr.mapUpdate 55 (.map (some b)) (.int .i64 n) (.agg #[.string s])).run Try.prog w = .ok () w' ∧ Sec w' b (k + 1) (put f n.toNat s) ∧ w.grownBy w' (some b) := by
  obtain ⟨D, hown, hr⟩ := h
  obtain ⟨w', hrun, hown', hg⟩ := hown.update law3 Try.underlying55 hk (key3 h0 h1) (secR_mk hs)
  refine ⟨w', hrun, ⟨_, hown', fun i hi => ?_⟩, hg⟩
  have e : ((n.toNat : Nat) : Int) = n := Int.toNat_of_nonneg h0
  unfold put
  by_cases hin : i = n.toNat
  · subst hin
    rw [e, if_pos rfl]
    refine ⟨by rw [Maps.has_put_same hown.isMap (law3.key (key3 h0 h1))]; rfl, fun t ht z => ?_⟩
    cases ht
    exact Maps.atKey_put_same hown.isMap (law3.key (key3 h0 h1)) _ _
  · rw [if_neg hin]
    have hne : Lit.int .i64 (i : Int) ≠ Lit.int .i64 n := by
      intro e'
      simp at e'
      omega
    rw [Maps.has_put_other hne]
    refine ⟨(hr i hi).1, fun t ht z => ?_⟩
    rw [Maps.atKey_put_other hne]
    exact (hr i hi).2 t ht z

theorem Sec.clear {w : World} {b k : Nat} {f : Nat → Option ByteArray} (h : Sec w b k f) (ty : TypeId) :
    ∃ w', (Builtin.clear_ #[55] ty #[.map (some b)]).run Try.prog w = .ok (.tuple #[]) w' ∧ Sec w' b 0 (fun _ => none) ∧ w.grownBy w' (some b) := by
  obtain ⟨D, ⟨es, clock, hb, F, _⟩, _⟩ := h
  refine ⟨ChangeMaps.setBlock w b (.map #[] clock), ?_, ⟨.map [], ⟨#[], clock, ChangeMaps.heap_setBlock_same hb _, ⟨by simp, ?_, by simp⟩, Nat.le_refl _, rfl⟩, fun i _ => ⟨rfl, fun s h => by cases h⟩⟩, ⟨rfl, rfl, rfl, by simp [ChangeMaps.setBlock], fun i _ hi => ChangeMaps.heap_setBlock_other hb _ (fun e => hi (by rw [e]))⟩⟩
  · simp [Builtin.clear_, run_underlying Try.underlying55, MapKept.run_getObj_map hb, MapKept.run_setObj_map _ hb, Result.andThen, ChangeMaps.setBlock]
  · exact MapKept.stamped_empty clock
end Go.Proofs.Ytmkmebogfcbphaa
