/- Texts that the proof needs, one behind the other. -/
import Derived.Test.YtdelobaiicoogaaGreatDoorRows
import Derived.WalkKit
import Derived.ProofKit
import Derived.OpenShut
import Derived.WalkLawsBesides
import Derived.WalkSpells
import Derived.Outline
import Derived.BigFrame
import Derived.Deep.RegionHeld3
import Derived.Deep.QuietTactic
import Derived.BigQuiet
import Derived.Maps.RangeWalk
import Derived.Maps.Ext
import Derived.Laws.MakeOwn
import Derived.Maps.OwnSet
import Derived.Laws.BitsAllLaws
import Derived.Deep.AppendLies
import Derived.Laws.BytesArg
/- Plain mathematics of layer 5: sectors that are free, held, or wait. -/
namespace Go.Proofs.YtdelobaiicoogaaGreatDoor.L5

/-- what is known of a sector: nothing (it is free); its holders (without any it waits), and a generation -/
abbrev St := Option (Nat × Int)
def cntS : St → Nat
  | some (h, _) => h
  | none => 0
def waitS : St → Bool
  | some (0, _) => true
  | _ => false
def dueS (gen : Int) : St → Bool
  | some (0, g) => decide (g ≤ gen)
  | _ => false
def freeS : St → Bool
  | none => true
  | _ => false
def freedS (gen : Int) (s : St) : St := if dueS gen s = true then none else s
def holdS : St → St
  | some (h + 1, g) => some (h + 2, g)
  | s => s
def dropS (gen : Int) : St → St
  | some (1, g) => if g = gen then none else some (0, gen)
  | some (h + 2, g) => some (h + 1, g)
  | s => s

/-- numbers of 64 bits -/
def I64 (n : Int) : Prop := -9223372036854775808 ≤ n ∧ n ≤ 9223372036854775807
def goodS : St → Prop
  | some (h, g) => h ≤ 5000 ∧ I64 g
  | none => True
structure Ok (fr : Nat) (l : List St) : Prop where
  few : fr + l.length ≤ 4096
  good : ∀ s ∈ l, goodS s

abbrev In (fr : Nat) (l : List St) (n : Int) : Prop := (fr : Int) ≤ n ∧ n < (fr : Int) + (l.length : Int)
def ix (fr : Nat) (n : Int) : Nat := (n - (fr : Int)).toNat
def sec (fr : Nat) (l : List St) (n : Int) : St := if In fr l n then l.getD (ix fr n) none else none
def upd (fr : Nat) (l : List St) (n : Int) (s : St) : List St := if In fr l n then l.set (ix fr n) s else l

theorem ix_lt {fr : Nat} {l : List St} {n : Int} (h : In fr l n) : ix fr n < l.length := by unfold ix; unfold In at h; omega
theorem ix_eq {fr : Nat} {l : List St} {n : Int} (h : In fr l n) : ((fr + ix fr n : Nat) : Int) = n := by unfold ix; unfold In at h; omega
theorem sec_at {fr : Nat} {l : List St} {n : Int} (h : In fr l n) : l[ix fr n]? = some (sec fr l n) := by
  unfold sec
  rw [if_pos h, List.getD_eq_getElem?_getD, List.getElem?_eq_getElem (ix_lt h)]
  rfl
theorem sec_none {fr : Nat} {l : List St} {n : Int} (h : ¬ In fr l n) : sec fr l n = none := by unfold sec; rw [if_neg h]
theorem sec_some {fr : Nat} {l : List St} {n : Int} {x : Nat × Int} (h : sec fr l n = some x) : In fr l n := by
  by_cases hi : In fr l n
  · exact hi
  · rw [sec_none hi] at h
    cases h
theorem sec_of {fr : Nat} {l : List St} {i : Nat} (h : i < l.length) : sec fr l ((fr : Int) + (i : Int)) = l[i] := by
  have hi : In fr l ((fr : Int) + (i : Int)) := by unfold In; omega
  have e : ix fr ((fr : Int) + (i : Int)) = i := by unfold ix; omega
  have := sec_at hi
  rw [e, List.getElem?_eq_getElem h] at this
  exact (Option.some.inj this).symm
theorem upd_length (fr : Nat) (l : List St) (n : Int) (s : St) : (upd fr l n s).length = l.length := by
  unfold upd
  split
  · exact List.length_set
  · rfl
theorem upd_in {fr : Nat} {l : List St} {n : Int} (s : St) (h : In fr l n) : upd fr l n s = l.set (ix fr n) s := by unfold upd; rw [if_pos h]
theorem in_upd {fr : Nat} {l : List St} {n m : Int} {s : St} : In fr (upd fr l n s) m ↔ In fr l m := by unfold In; rw [upd_length]
theorem sec_upd {fr : Nat} {l : List St} {n : Int} {s : St} (h : In fr l n) : sec fr (upd fr l n s) n = s := by
  have h1 := sec_at ((in_upd (n := n) (s := s)).2 h)
  rw [upd_in s h, List.getElem?_set_self (ix_lt h)] at h1
  rw [upd_in s h]
  exact (Option.some.inj h1).symm
theorem sec_upd_ne {fr : Nat} {l : List St} {n m : Int} {s : St} (hne : m ≠ n) : sec fr (upd fr l n s) m = sec fr l m := by
  by_cases hn : In fr l n
  · by_cases hm : In fr l m
    · have h1 := sec_at (in_upd (n := n) (s := s) |>.2 hm)
      rw [upd_in s hn, List.getElem?_set_ne (by intro e; have h1 := ix_eq hn; have h2 := ix_eq hm; rw [e] at h1; omega), sec_at hm] at h1
      rw [upd_in s hn]
      exact (Option.some.inj h1).symm
    · rw [sec_none hm, sec_none (fun h => hm (in_upd.1 h))]
  · unfold upd
    rw [if_neg hn]

theorem Ok.upd {fr : Nat} {l : List St} (h : Ok fr l) (n : Int) {s : St} (hs : goodS s) : Ok fr (upd fr l n s) := by
  refine ⟨by rw [upd_length]; exact h.few, fun x hx => ?_⟩
  unfold Go.Proofs.YtdelobaiicoogaaGreatDoor.L5.upd at hx
  split at hx
  · rcases List.mem_or_eq_of_mem_set hx with hx | hx
    · exact h.good x hx
    · rw [hx]; exact hs
  · exact h.good x hx
theorem Ok.sec {fr : Nat} {l : List St} (h : Ok fr l) (n : Int) : goodS (sec fr l n) := by
  by_cases hi : In fr l n
  · exact h.good _ (List.mem_of_getElem? (sec_at hi))
  · rw [sec_none hi]; trivial

/-! what a call answers, and what it leaves -/
def newM (fr to : Nat) : List St := List.replicate (to - fr) none
def markE (fr : Nat) (l : List St) (n : Int) : Int := if In fr l n then (if sec fr l n = none then 0 else 103) else 31
def markM (fr : Nat) (l : List St) (n gen : Int) : List St := if sec fr l n = none then upd fr l n (some (1, gen)) else l
def holdE (fr : Nat) (l : List St) (n : Int) : Int := if cntS (sec fr l n) = 0 then 51 else if cntS (sec fr l n) = 5000 then 52 else 0
def holdM (fr : Nat) (l : List St) (n : Int) : List St := if cntS (sec fr l n) = 5000 then l else upd fr l n (holdS (sec fr l n))
def dropE (fr : Nat) (l : List St) (n : Int) : Int := if cntS (sec fr l n) = 0 then 51 else 0
def dropM (fr : Nat) (l : List St) (n gen : Int) : List St := upd fr l n (dropS gen (sec fr l n))
def freeM (l : List St) (gen : Int) : List St := l.map (freedS gen)
def room (l : List St) : Nat := l.countP freeS
def takeI (l : List St) : Option Nat := l.findIdx? freeS
def takeN (fr : Nat) (l : List St) : Int := match takeI l with | some i => (fr : Int) + (i : Int) | none => 0
def takeE (l : List St) : Int := match takeI l with | some _ => 0 | none => 50
def takeM (l : List St) (gen : Int) : List St := match takeI l with | some i => l.set i (some (1, gen)) | none => l

theorem freeS_iff (s : St) : freeS s = true ↔ s = none := by cases s <;> simp [freeS]
theorem take_some {l : List St} {k : Nat} (h : l[k]? = some none) (hp : ∀ j, j < k → l[j]? ≠ some none) : takeI l = some k := by
  obtain ⟨hk, he⟩ := List.getElem?_eq_some_iff.1 h
  unfold takeI
  rw [List.findIdx?_eq_some_iff_getElem]
  refine ⟨hk, by rw [he]; rfl, fun j hj => ?_⟩
  have := hp j hj
  rw [List.getElem?_eq_getElem (by omega)] at this
  intro e
  exact this (by rw [(freeS_iff _).1 e])
theorem take_none {l : List St} (hp : ∀ j, j < l.length → l[j]? ≠ some none) : takeI l = none := by
  unfold takeI
  rw [List.findIdx?_eq_none_iff]
  intro x hx
  obtain ⟨j, hj, rfl⟩ := List.getElem_of_mem hx
  have := hp j hj
  rw [List.getElem?_eq_getElem hj] at this
  cases hq : l[j] with
  | none => exact absurd (by rw [hq]) this
  | some y => rfl

/-! counting by what is left to come -/
/-- what is freed of those that are no longer to come -/
def mix (gen : Int) (left : Int → Bool) : Nat → List St → List St
  | _, [] => []
  | fr, s :: r => (if left (fr : Int) = true then s else freedS gen s) :: mix gen left (fr + 1) r
theorem mix_length (gen : Int) (left : Int → Bool) : ∀ (l : List St) (fr : Nat), (mix gen left fr l).length = l.length
  | [], _ => rfl
  | s :: r, fr => by simp [mix, mix_length gen left r (fr + 1)]
theorem mix_at (gen : Int) (left : Int → Bool) : ∀ (l : List St) (fr i : Nat), (mix gen left fr l)[i]? = (l[i]?).map (fun s => if left ((fr : Int) + (i : Int)) = true then s else freedS gen s)
  | [], _, _ => by simp [mix]
  | s :: r, fr, 0 => by simp [mix]
  | s :: r, fr, i + 1 => by
    simp only [mix, List.getElem?_cons_succ]
    rw [mix_at gen left r (fr + 1) i, show (fr : Int) + ((i + 1 : Nat) : Int) = ((fr + 1 : Nat) : Int) + (i : Int) by omega]
theorem mix_end (gen : Int) (left : Int → Bool) (l : List St) (fr : Nat) (h : ∀ i, left i = false) : mix gen left fr l = freeM l gen := by
  apply List.ext_getElem?
  intro j
  rw [mix_at]
  simp [freeM, h]

theorem goodS_freed {gen : Int} {s : St} (h : goodS s) : goodS (freedS gen s) := by unfold freedS; split <;> trivial
theorem Ok.mix {fr : Nat} {l : List St} (h : Ok fr l) (gen : Int) (left : Int → Bool) : Ok fr (mix gen left fr l) := by
  refine ⟨by rw [mix_length]; exact h.few, fun s hs => ?_⟩
  obtain ⟨i, hi⟩ := List.getElem?_of_mem hs
  rw [mix_at] at hi
  cases hj : l[i]? with
  | none => rw [hj] at hi; cases hi
  | some x =>
    rw [hj] at hi
    have hx := h.good x (List.mem_of_getElem? hj)
    simp at hi
    subst hi
    split
    · exact hx
    · exact goodS_freed hx
theorem Ok.free {fr : Nat} {l : List St} (h : Ok fr l) (gen : Int) : Ok fr (freeM l gen) := by
  rw [← mix_end gen (fun _ => false) l fr (fun _ => rfl)]
  exact h.mix _ _
theorem Ok.take {fr : Nat} {l : List St} (h : Ok fr l) {gen : Int} (hg : I64 gen) : Ok fr (takeM l gen) := by
  unfold takeM
  split
  · refine ⟨by rw [List.length_set]; exact h.few, fun x hx => ?_⟩
    rcases List.mem_or_eq_of_mem_set hx with hx | hx
    · exact h.good x hx
    · rw [hx]; exact ⟨by decide, hg⟩
  · exact h
theorem Ok.drop {fr : Nat} {l : List St} (h : Ok fr l) (n : Int) {gen : Int} (hg : I64 gen) : Ok fr (dropM fr l n gen) := by
  unfold dropM
  have hs := h.sec n
  refine h.upd n ?_
  unfold dropS
  split
  · split
    · trivial
    · exact ⟨by decide, hg⟩
  · rename_i hq
    rw [hq] at hs
    exact ⟨by have := hs.1; omega, hs.2⟩
  · exact hs
theorem Ok.newM {fr to : Nat} (h : fr ≤ to) (h2 : to ≤ 4096) : Ok fr (newM fr to) := by
  refine ⟨by unfold Go.Proofs.YtdelobaiicoogaaGreatDoor.L5.newM; rw [List.length_replicate]; omega, fun s hs => ?_⟩
  rw [List.eq_of_mem_replicate hs]
  trivial
end Go.Proofs.YtdelobaiicoogaaGreatDoor.L5

/- Small words: what is hidden from the walk; nothing but these blocks has turned. -/
namespace Go.Proofs.YtdelobaiicoogaaGreatDoor.L5
open Go.ChangeShapes Go.WideShapes Go.ChangeAt Go.RowKit

theorem hide {p : Prop} (h : p) : Hid p := h
theorem unhide {p : Prop} (h : Hid p) : p := h

/-- nothing but these blocks has turned -/
structure Moves (fp : List Nat) (w w' : World) : Prop where
  os : w'.os = w.os
  tape : w'.tape = w.tape
  output : w'.output = w.output
  size : w.heap.size ≤ w'.heap.size
  block : ∀ k, k < w.heap.size → k ∉ fp → w'.heap[k]? = w.heap[k]?

theorem Moves.refl (fp : List Nat) (w : World) : Moves fp w w := ⟨rfl, rfl, rfl, Nat.le_refl _, fun _ _ _ => rfl⟩
theorem Moves.of_below {w w' : World} (fp : List Nat) (h : Below w.heap.size w w') : Moves fp w w' := ⟨h.os, h.tape, h.output, h.size, fun k hk _ => h.block k hk⟩
theorem Moves.to_below {w w' : World} (h : Moves [] w w') : Below w.heap.size w w' := ⟨h.os, h.tape, h.output, h.size, fun k hk => h.block k hk List.not_mem_nil⟩
theorem Moves.of_grown {w w' : World} {r : Option Nat} {fp : List Nat} (h : w.grownBy w' r) (hr : ∀ k, r = some k → k ∈ fp) : Moves fp w w' :=
  ⟨h.os, h.tape, h.output, h.size, fun k hk hn => h.block k hk (fun e => hn (hr k e.symm))⟩
theorem Moves.trans {fp fq : List Nat} {w w1 w2 : World} (h : Moves fp w w1) (k : Moves fq w1 w2) (hq : ∀ x ∈ fq, x ∈ fp ∨ w.heap.size ≤ x) : Moves fp w w2 :=
  ⟨k.os.trans h.os, k.tape.trans h.tape, k.output.trans h.output, Nat.le_trans h.size k.size, fun i hi hn => (k.block i (Nat.lt_of_lt_of_le hi h.size) (fun hm => by
    rcases hq i hm with h1 | h1
    · exact hn h1
    · omega)).trans (h.block i hi hn)⟩
theorem Moves.then {fp : List Nat} {w w1 w2 : World} (h : Moves fp w w1) (k : Moves fp w1 w2) : Moves fp w w2 := h.trans k (fun _ hx => .inl hx)
theorem Moves.mono {fp fq : List Nat} {w w1 : World} (h : Moves fp w w1) (hs : ∀ x ∈ fp, x ∈ fq ∨ w.heap.size ≤ x) : Moves fq w w1 := (Moves.refl fq w).trans h hs
theorem Moves.below {fp : List Nat} {B : Nat} {w0 w w' : World} (h0 : Below B w0 w) (h : Moves fp w w') (hfp : ∀ x ∈ fp, B ≤ x) (hB : B ≤ w.heap.size) : Below B w0 w' :=
  h0.trans ⟨h.os, h.tape, h.output, h.size, fun k hk => h.block k (by omega) (fun hm => by have := hfp k hm; omega)⟩
theorem Moves.set (w : World) (g j : Nat) (u : Value) {fp : List Nat} (hg : g ∈ fp) : Moves fp w (w.setCell ⟨g, j, none⟩ u) :=
  ⟨rfl, rfl, rfl, by simp, fun k _ hn => Below.heap_setCell w ⟨g, j, none⟩ u k (fun e => hn (by rw [e]; exact hg))⟩
theorem Moves.cell {fp : List Nat} {w w' : World} (h : Moves fp w w') {a : Addr} {v : Value} (hc : w.cell? a = some v) (hn : a.block ∉ fp) : w'.cell? a = some v :=
  (World.cell?_of_block (h.block a.block (World.block_lt_of_cell? w a hc) hn)).trans hc
theorem Moves.alloc (fp : List Nat) (w : World) (o : Obj) : Moves fp w (w.alloc o) := Moves.of_below fp ((Below.refl _ w).alloc (Nat.le_refl _) o)
theorem Moves.drew (fp : List Nat) (w : World) : Moves fp w w.drew := Moves.of_below fp (Below.refl _ w).drew
end Go.Proofs.YtdelobaiicoogaaGreatDoor.L5

/- Maps of the program with numbers as keys, as functions: whatever their values are, told by a reading that no two values have in common. -/
namespace Go.Proofs.YtdelobaiicoogaaGreatDoor
open Go.ChangeShapes Go.WideShapes Go.ChangeAt Go.RowKit Go.Maps

abbrev Rdg := Value → Option (DataW Unit × List MemPlace)
/-- no two values read alike -/
def Apart (R : Rdg) : Prop := ∀ v v' d ps ps', R v = some (d, ps) → R v' = some (d, ps') → v = v'

theorem law3 : Keyed Tryz.prog 3 := int_keyed Tryz.underlying3
theorem key3 {n : Int} (h0 : 0 ≤ n) (h1 : n < 4096) : keyOf Tryz.prog 3 (.int .i64 n) = some (.int .i64 n) := keyOf_int_mk Tryz.underlying3 (WalkArith.wf_i64 (by omega))

/-- block b is a map of at most k entries, and holds these -/
def Vm (R : Rdg) (w : World) (b k : Nat) (f : Nat → Option Value) : Prop :=
  ∃ D, w.ownsMap Tryz.prog 3 R b k D ∧ ∀ i : Nat, i < 4096 → (Maps.has D (.int .i64 (i : Int)) = (f i).isSome ∧ ∀ v, f i = some v → ∃ d ps, R v = some (d, ps) ∧ ∀ z, D.atKey (.int .i64 (i : Int)) z = d)

variable {R : Rdg} {w w' : World} {b k : Nat} {f : Nat → Option Value}

theorem Vm.lt (h : Vm R w b k f) : b < w.heap.size := by
  obtain ⟨D, h, _⟩ := h
  exact h.lt
theorem Vm.mono {k' : Nat} (h : Vm R w b k f) (hk : k ≤ k') : Vm R w b k' f := by
  obtain ⟨D, h, r⟩ := h
  exact ⟨D, h.mono hk, r⟩
theorem Vm.same (h : Vm R w b k f) (hb : w'.heap[b]? = w.heap[b]?) : Vm R w' b k f := by
  obtain ⟨D, ⟨es, clock, h1, r1⟩, r⟩ := h
  exact ⟨D, ⟨es, clock, hb.trans h1, r1⟩, r⟩
theorem Vm.kind (h : Vm R w b k f) : ∃ es clock, w.heap[b]? = some (.map es clock) := by
  obtain ⟨D, ⟨es, clock, h1, _⟩, _⟩ := h
  exact ⟨es, clock, h1⟩
theorem Vm.made (R : Rdg) (w : World) : Vm R (w.alloc (.map #[] 0)) w.heap.size 0 (fun _ => none) :=
  ⟨_, World.ownsMap_made w Tryz.prog 3 R, fun i _ => ⟨rfl, fun s h => by cases h⟩⟩

theorem Vm.look (h : Vm R w b k f) (hR : Apart R) {t e : TypeId} (ht : Tryz.prog.underlying t = some (.map 3 e)) {z : Value} (hz : (zeroValue e).run Tryz.prog w = .ok z w) {zd : DataW Unit} {zp : List MemPlace} (hzd : R z = some (zd, zp))
    {n : Int} (h0 : 0 ≤ n) (h1 : n < 4096) :
    (Instr.lookup t (.map (some b)) (.int .i64 n) false).run Tryz.prog w = .ok ((f n.toNat).getD z) w := by
  obtain ⟨D, hown, hr⟩ := h
  obtain ⟨v, ps, hrun, hv⟩ := hown.lookup law3 ht hz hzd (key3 h0 h1)
  have e : ((n.toNat : Nat) : Int) = n := Int.toNat_of_nonneg h0
  have h2 := hr n.toNat (by omega)
  rw [e] at h2
  rw [hrun]
  cases hf : f n.toNat with
  | none =>
    rw [hf] at h2
    rw [Maps.atKey_of_not_has h2.1] at hv
    rw [hR _ _ _ _ _ hv hzd]
    rfl
  | some u =>
    obtain ⟨d, qs, hu, hd⟩ := h2.2 u hf
    rw [hd] at hv
    rw [hR _ _ _ _ _ hv hu]
    rfl
/-- a key that is none of ours -/
theorem Vm.store (h : Vm R w b k f) {t e : TypeId} (ht : Tryz.prog.underlying t = some (.map 3 e)) {n : Int} (h0 : 0 ≤ n) (h1 : n < 4096) {u : Value} {d : DataW Unit} {ps : List MemPlace} (hu : R u = some (d, ps)) (hk : k < maxLen) :
    ∃ w', (Instr.mapUpdate t (.map (some b)) (.int .i64 n) u).run Tryz.prog w = .ok () w' ∧ Vm R w' b (k + 1) (fun i => if i = n.toNat then some u else f i) ∧ w.grownBy w' (some b) := by
  obtain ⟨D, hown, hr⟩ := h
  obtain ⟨w', hrun, hown', hg⟩ := hown.update law3 ht hk (key3 h0 h1) hu
  refine ⟨w', hrun, ⟨_, hown', fun i hi => ?_⟩, hg⟩
  have e : ((n.toNat : Nat) : Int) = n := Int.toNat_of_nonneg h0
  dsimp only
  by_cases hin : i = n.toNat
  · subst hin
    rw [e, if_pos rfl]
    refine ⟨by rw [Maps.has_put_same hown.isMap (law3.key (key3 h0 h1))]; rfl, fun t ht => ?_⟩
    cases ht
    exact ⟨d, ps, hu, fun z => Maps.atKey_put_same hown.isMap (law3.key (key3 h0 h1)) _ _⟩
  · rw [if_neg hin]
    have hne : Lit.int .i64 (i : Int) ≠ Lit.int .i64 n := by
      intro e'
      simp at e'
      omega
    rw [Maps.has_put_other hne]
    refine ⟨(hr i hi).1, fun t ht => ?_⟩
    obtain ⟨d', ps', h1, h2⟩ := (hr i hi).2 t ht
    exact ⟨d', ps', h1, fun z => by rw [Maps.atKey_put_other hne]; exact h2 z⟩
theorem Vm.del (h : Vm R w b k f) {t e : TypeId} (ht : Tryz.prog.underlying t = some (.map 3 e)) {n : Int} (h0 : 0 ≤ n) (h1 : n < 4096) (ty : TypeId) :
    ∃ w', (Builtin.delete_ #[t, 3] ty #[.map (some b), .int .i64 n]).run Tryz.prog w = .ok (.tuple #[]) w' ∧ Vm R w' b k (fun i => if i = n.toNat then none else f i) ∧ w.grownBy w' (some b) := by
  obtain ⟨D, hown, hr⟩ := h
  obtain ⟨w', hrun, hown', hg⟩ := hown.drop law3 ht (key3 h0 h1) ty
  refine ⟨w', hrun, ⟨_, hown', fun i hi => ?_⟩, hg.grown⟩
  have e : ((n.toNat : Nat) : Int) = n := Int.toNat_of_nonneg h0
  dsimp only
  by_cases hin : i = n.toNat
  · subst hin
    rw [e, if_pos rfl]
    exact ⟨by rw [Maps.has_del_same]; rfl, fun t ht => by cases ht⟩
  · rw [if_neg hin]
    have hne : Lit.int .i64 (i : Int) ≠ Lit.int .i64 n := by
      intro e'
      simp at e'
      omega
    rw [Maps.has_del_other hne]
    refine ⟨(hr i hi).1, fun t ht => ?_⟩
    obtain ⟨d', ps', h1, h2⟩ := (hr i hi).2 t ht
    exact ⟨d', ps', h1, fun z => by rw [Maps.atKey_del_other hne]; exact h2 z⟩

/-- how a slice in a map reads: by where it stands -/
def slR : Rdg
  | .slice none n c => some (.agg [.lit (.int .i64 (n : Int)), .lit (.int .i64 (c : Int))], [])
  | .slice (some ⟨g, i, none⟩) n c => some (.agg [.lit (.int .i64 (g : Int)), .lit (.int .i64 (i : Int)), .lit (.int .i64 (n : Int)), .lit (.int .i64 (c : Int))], [])
  | _ => none
/-- how a number in a map reads -/
def inR : Rdg
  | .int .i64 n => some (.lit (.int .i64 n), [])
  | _ => none
theorem inR_apart : Apart inR := by
  intro v v' d ps ps' h h'
  unfold inR at h h'
  split at h <;> split at h' <;> simp_all
  obtain ⟨rfl, _⟩ := h
  simp at h'
  omega
theorem zero3 (w : World) : (zeroValue 3).run Tryz.prog w = .ok (.int .i64 0) w := by kernel_rfl
end Go.Proofs.YtdelobaiicoogaaGreatDoor

/- Plain mathematics of a disk: what the document says, as functions; nothing of any program. -/
namespace Go.Proofs.YtdelobaiicoogaaGreatDoor.L3

/-- a disk as the document has it: what was flushed, what is open, how many calls the power has (below 0: it stays), is it gone? -/
structure Dk where
  old : List ByteArray
  op : List (Nat × ByteArray)
  left : Int
  gone : Bool

/-- the last open write that names this sector -/
def lastW (op : List (Nat × ByteArray)) (i : Nat) : Option ByteArray := op.foldl (fun acc p => if p.1 = i then some p.2 else acc) none

theorem lastW_snoc (op : List (Nat × ByteArray)) (p : Nat × ByteArray) (i : Nat) : lastW (op ++ [p]) i = if p.1 = i then some p.2 else lastW op i := by
  unfold lastW
  rw [List.foldl_append]
  rfl
/-- a list's property from one that grows at its end -/
theorem snoc_ind {α : Type} {p : List α → Prop} (h0 : p []) (h1 : ∀ l x, p l → p (l ++ [x])) : ∀ l, p l := by
  intro l
  have : ∀ n, ∀ l : List α, l.length = n → p l := by
    intro n
    induction n with
    | zero => intro l hl; rw [List.length_eq_zero_iff.1 hl]; exact h0
    | succ n ih =>
      intro l hl
      have hne : l ≠ [] := by intro e; rw [e] at hl; simp at hl
      rw [← List.dropLast_concat_getLast hne]
      exact h1 _ _ (ih _ (by rw [List.length_dropLast]; omega))
  exact this _ l rfl

/-- the answers -/
def readM (m : Dk) (n : Int) : ByteArray × Int :=
  if m.gone = true then (ByteArray.empty, 30) else if n < 0 ∨ (m.old.length : Int) ≤ n then (ByteArray.empty, 31) else ((lastW m.op n.toNat).getD (m.old.getD n.toNat ByteArray.empty), 0)
def spent (l : Int) : Int := if 0 < l then l - 1 else l
def writeE (m : Dk) (n : Int) (data : ByteArray) : Int :=
  if m.gone = true then 30 else if m.left = 0 then 30 else if n < 0 ∨ (m.old.length : Int) ≤ n then 31 else if data.size ≠ 1024 then 32 else 0
def writeM (m : Dk) (n : Int) (data : ByteArray) : Dk :=
  if m.gone = true then m else if m.left = 0 then { m with gone := true } else if n < 0 ∨ (m.old.length : Int) ≤ n then m else if data.size ≠ 1024 then m
  else { m with left := spent m.left, op := m.op ++ [(n.toNat, data)] }
/-- what holds of every disk: sectors have 1024 bytes, open writes name sectors and have as many -/
structure Ok (m : Dk) : Prop where
  old : ∀ i, i < m.old.length → (m.old.getD i ByteArray.empty).size = 1024
  op : ∀ p ∈ m.op, p.1 < m.old.length ∧ p.2.size = 1024
  left : -1 ≤ m.left ∧ m.left ≤ 9223372036854775807
  many : m.old.length ≤ 4096

theorem spent_in {l : Int} (h : -1 ≤ l ∧ l ≤ 9223372036854775807) : -1 ≤ spent l ∧ spent l ≤ 9223372036854775807 := by
  unfold spent
  split <;> omega

theorem lastW_mem (op : List (Nat × ByteArray)) (i : Nat) (s : ByteArray) : lastW op i = some s → (i, s) ∈ op := by
  induction op using snoc_ind with
  | h0 => intro h; cases h
  | h1 l x ih =>
    intro h
    rw [lastW_snoc] at h
    split at h
    · rename_i e
      cases h
      subst e
      exact List.mem_append_right _ (by simp)
    · exact List.mem_append_left _ (ih h)

end Go.Proofs.YtdelobaiicoogaaGreatDoor.L3

/- The plain mathematics of the check of bytes: a shift of a register, whole bytes, half bytes by a table, a message as one number. No program is spoken of here. -/
namespace Go.Proofs.YtdelobaiicoogaaGreatDoor.L4.Crc

/-- one shift down: the bit that goes out puts the constant on the register -/
def sh (x : Nat) : Nat := if x % 2 = 1 then (x / 2) ^^^ 2197175160 else x / 2
def shn : Nat → Nat → Nat
  | 0, x => x
  | n + 1, x => shn n (sh x)

theorem xac (a b c d : Nat) : (a ^^^ b) ^^^ (c ^^^ d) = (a ^^^ c) ^^^ (b ^^^ d) := by
  rw [Nat.xor_assoc, Nat.xor_assoc, ← Nat.xor_assoc b c d, Nat.xor_comm b c, Nat.xor_assoc c b d]

theorem sh_xor (x y : Nat) : sh (x ^^^ y) = sh x ^^^ sh y := by
  have hd : (x ^^^ y) / 2 = x / 2 ^^^ y / 2 := Nat.xor_div_two
  have hm : (x ^^^ y) % 2 = (x + y) % 2 := by
    have h : (x ^^^ y) % 2 = (x % 2) ^^^ (y % 2) := Nat.xor_mod_two_pow (n := 1)
    rw [h]
    rcases Nat.mod_two_eq_zero_or_one x with h1 | h1 <;> rcases Nat.mod_two_eq_zero_or_one y with h2 | h2 <;> rw [h1, h2] <;> simp <;> omega
  unfold sh
  rw [hd, hm]
  by_cases h1 : x % 2 = 1 <;> by_cases h2 : y % 2 = 1
  · rw [if_neg (by omega), if_pos h1, if_pos h2, xac, Nat.xor_self, Nat.xor_zero]
  · rw [if_pos (by omega), if_pos h1, if_neg h2, Nat.xor_assoc, Nat.xor_comm (y / 2), ← Nat.xor_assoc]
  · rw [if_pos (by omega), if_neg h1, if_pos h2, Nat.xor_assoc]
  · rw [if_neg (by omega), if_neg h1, if_neg h2]

theorem shn_xor (n x y : Nat) : shn n (x ^^^ y) = shn n x ^^^ shn n y := by
  induction n generalizing x y with
  | zero => rfl
  | succ n ih => show shn n (sh (x ^^^ y)) = _; rw [sh_xor, ih]; rfl

theorem shn_add (m n x : Nat) : shn (m + n) x = shn n (shn m x) := by
  induction m generalizing x with
  | zero => simp [shn]
  | succ m ih =>
    have e : m + 1 + n = (m + n) + 1 := by omega
    rw [e]
    show shn (m + n) (sh x) = shn n (shn m (sh x))
    rw [ih]

theorem sh_two (y : Nat) : sh (y * 2) = y := by
  unfold sh
  rw [if_neg (by omega)]
  omega

theorem shn_pow (n y : Nat) : shn n (y * 2 ^ n) = y := by
  induction n generalizing y with
  | zero => simp [shn]
  | succ n ih =>
    show shn n (sh (y * 2 ^ (n + 1))) = y
    have e : y * 2 ^ (n + 1) = (y * 2 ^ n) * 2 := by rw [Nat.pow_succ, Nat.mul_assoc]
    rw [e, sh_two, ih]

theorem sh_lt {x : Nat} (h : x < 4294967296) : sh x < 4294967296 := by
  unfold sh
  split
  · have : x / 2 ^^^ 2197175160 < 2 ^ 32 := Nat.xor_lt_two_pow (by omega) (by decide)
    simpa using this
  · omega

theorem shn_lt (n : Nat) {x : Nat} (h : x < 4294967296) : shn n x < 4294967296 := by
  induction n generalizing x with
  | zero => exact h
  | succ n ih => exact ih (sh_lt h)

/-- a whole byte -/
def bstep (s b : Nat) : Nat := shn 8 (s ^^^ b)
def run (s : Nat) (l : List Nat) : Nat := l.foldl bstep s
theorem run_append (s : Nat) (l r : List Nat) : run s (l ++ r) = run (run s l) r := by simp [run, List.foldl_append]
theorem run_snoc (s b : Nat) (l : List Nat) : run s (l ++ [b]) = bstep (run s l) b := by rw [run_append]; rfl

theorem bstep_lt {s b : Nat} (hs : s < 4294967296) (hb : b < 256) : bstep s b < 4294967296 := by
  have : s ^^^ b < 2 ^ 32 := Nat.xor_lt_two_pow (by omega) (by omega)
  exact shn_lt 8 (by simpa using this)
theorem run_lt {s : Nat} (l : List Nat) (hs : s < 4294967296) (hl : ∀ b ∈ l, b < 256) : run s l < 4294967296 := by
  induction l generalizing s with
  | nil => exact hs
  | cons b l ih => exact ih (bstep_lt hs (hl b (by simp))) (fun x hx => hl x (by simp [hx]))

/-- half a byte at a time, by the table -/
def tabN : List Nat := [0, 274646895, 549293790, 820201905, 1098587580, 1361435347, 1640403810, 1905808397, 2197175160, 2460548119, 2722870694, 2987750089, 3280807620, 3553878443, 3811616794, 4084100981]
def tab (i : Nat) : Nat := tabN.getD i 0
theorem tab_lt (i : Nat) : tab i < 4294967296 := by
  by_cases h : i < 16
  · have : ∀ j : Fin 16, tab j.val < 4294967296 := by decide
    exact this ⟨i, h⟩
  · have : tab i = 0 := by
      unfold tab
      rw [List.getD_eq_getElem?_getD, List.getElem?_eq_none (by simp [tabN]; omega)]
      rfl
    omega
theorem tab_sh : ∀ j : Fin 16, shn 4 j.val = tab j.val := by decide

theorem split_low (x n : Nat) : x = (x / 2 ^ n * 2 ^ n) ^^^ (x % 2 ^ n) := by
  apply Nat.eq_of_testBit_eq
  intro i
  rw [Nat.testBit_xor, Nat.testBit_mod_two_pow, Nat.testBit_mul_two_pow, Nat.testBit_div_two_pow]
  by_cases h : i < n
  · simp [h, Nat.not_le.2 h]
  · have h' : n ≤ i := Nat.le_of_not_lt h
    simp [h, h', Nat.sub_add_cancel h']

def half (x : Nat) : Nat := x / 16 ^^^ tab (x % 16)
theorem half_eq (x : Nat) : half x = shn 4 x := by
  have h := split_low x 4
  have e : shn 4 x = shn 4 ((x / 2 ^ 4 * 2 ^ 4) ^^^ (x % 2 ^ 4)) := by rw [← h]
  rw [e, shn_xor, shn_pow]
  have := tab_sh ⟨x % 16, by omega⟩
  show x / 16 ^^^ tab (x % 16) = x / 16 ^^^ shn 4 (x % 16)
  rw [this]
theorem halves_eq (s b : Nat) : half (half (s ^^^ b)) = bstep s b := by
  rw [half_eq, half_eq, ← shn_add]
  rfl
theorem half_lt {x : Nat} (h : x < 4294967296) : half x < 4294967296 := by rw [half_eq]; exact shn_lt 4 h

/-- the sum, and the sum with more behind -/
def more (c : Nat) (l : List Nat) : Nat := run (c ^^^ 4294967295) l ^^^ 4294967295
def sum (l : List Nat) : Nat := more 0 l
theorem not_lt {c : Nat} (h : c < 4294967296) : c ^^^ 4294967295 < 4294967296 := by
  have : c ^^^ 4294967295 < 2 ^ 32 := Nat.xor_lt_two_pow (by omega) (by decide)
  simpa using this
theorem not_not (c : Nat) : (c ^^^ 4294967295) ^^^ 4294967295 = c := by rw [Nat.xor_assoc, Nat.xor_self, Nat.xor_zero]
theorem more_lt {c : Nat} (l : List Nat) (h : c < 4294967296) (hl : ∀ b ∈ l, b < 256) : more c l < 4294967296 := not_lt (run_lt l (not_lt h) hl)
theorem more_append (c : Nat) (l r : List Nat) : more c (l ++ r) = more (more c l) r := by
  unfold more
  rw [run_append, not_not]
theorem sum_lt (l : List Nat) (hl : ∀ b ∈ l, b < 256) : sum l < 4294967296 := more_lt l (by decide) hl
theorem sum_append (l r : List Nat) : sum (l ++ r) = more (sum l) r := more_append 0 l r

end Go.Proofs.YtdelobaiicoogaaGreatDoor.L4.Crc

/- The plain mathematics of fixed numbers: lists of bytes, and how they are read. -/
namespace Go.Proofs.YtdelobaiicoogaaGreatDoor.L4.Pk

/-- a fixed number's bytes, the highest first -/
def fixL (n : Nat) : List Nat := [n / 2 ^ 56 % 256, n / 2 ^ 48 % 256, n / 2 ^ 40 % 256, n / 2 ^ 32 % 256, n / 2 ^ 24 % 256, n / 2 ^ 16 % 256, n / 2 ^ 8 % 256, n % 256]
/-- the number of bytes, the highest first -/
def fixN (l : List Nat) : Nat := l.foldl (fun a b => a * 256 + b) 0
theorem fixL_length (n : Nat) : (fixL n).length = 8 := rfl
theorem fixL_lt (n : Nat) : ∀ b ∈ fixL n, b < 256 := by
  intro b hb
  simp only [fixL, List.mem_cons, List.not_mem_nil, or_false] at hb
  rcases hb with rfl | rfl | rfl | rfl | rfl | rfl | rfl | rfl <;> exact Nat.mod_lt _ (by decide)
theorem fixN_fixL (n : Nat) (h : n < 18446744073709551616) : fixN (fixL n) = n := by
  simp only [fixN, fixL, List.foldl_cons, List.foldl_nil]
  omega
theorem fixN_snoc (l : List Nat) (b : Nat) : fixN (l ++ [b]) = fixN l * 256 + b := by simp [fixN]
theorem fold_lt (l : List Nat) (a : Nat) (hl : ∀ b ∈ l, b < 256) : l.foldl (fun a b => a * 256 + b) a < (a + 1) * 256 ^ l.length := by
  induction l generalizing a with
  | nil => simp
  | cons b t ih =>
    rw [List.foldl_cons, List.length_cons, Nat.pow_succ]
    have h1 := ih (a * 256 + b) (fun c hc => hl c (List.mem_cons_of_mem _ hc))
    have h2 := hl b List.mem_cons_self
    have h3 : (a * 256 + b + 1) * 256 ^ t.length ≤ (a + 1) * 256 * 256 ^ t.length := Nat.mul_le_mul_right _ (by omega)
    have h4 : (a + 1) * (256 ^ t.length * 256) = (a + 1) * 256 * 256 ^ t.length := by rw [Nat.mul_comm (256 ^ t.length) 256, Nat.mul_assoc]
    omega
theorem fixN_lt (l : List Nat) (hl : ∀ b ∈ l, b < 256) : fixN l < 256 ^ l.length := by
  have := fold_lt l 0 hl
  simpa [fixN] using this
end Go.Proofs.YtdelobaiicoogaaGreatDoor.L4.Pk

/- Bytes of one's own: a slice that a call makes and appends to, and the text that is made of it. -/
namespace Go.Proofs.YtdelobaiicoogaaGreatDoor.L4
open Go.ChangeShapes Go.WideShapes Go.ChangeAt Go.RowKit

theorem hide {p : Prop} (h : p) : Hid p := h
theorem unhide {p : Prop} (h : Hid p) : p := h
theorem ret_int {k : IntKind} {a b : Int} (h : a = b) : Ending.returned (.int k a) = .returned (.int k b) := by rw [h]

/-- a text's bytes as numbers -/
def bn (s : ByteArray) : List Nat := s.data.toList.map UInt8.toNat
theorem bn_length (s : ByteArray) : (bn s).length = s.size := by
  unfold bn
  rw [List.length_map, Array.length_toList]
  rfl
theorem bn_lt (s : ByteArray) : ∀ b ∈ bn s, b < 256 := by
  intro b hb
  obtain ⟨u, _, rfl⟩ := List.mem_map.1 hb
  exact u.toNat_lt
theorem bn_append (s t : ByteArray) : bn (s ++ t) = bn s ++ bn t := by
  unfold bn
  rw [ByteArray.data_append, Array.toList_append, List.map_append]
theorem bn_inj {s t : ByteArray} (h : bn s = bn t) : s = t := by
  unfold bn at h
  apply ByteArray.ext
  have := (List.map_inj_right (f := UInt8.toNat) (fun a b e => UInt8.toNat_inj.1 e)).1 h
  exact Array.toList_inj.1 this
theorem bn_at (s : ByteArray) (k : Nat) (h : k < s.size) : (bn s)[k]? = some s[k].toNat := by
  simp only [bn, List.getElem?_map]
  rw [List.getElem?_eq_getElem (by rw [Array.length_toList]; exact h)]
  rfl

/-- the text of these bytes -/
def strOf (l : List Nat) : ByteArray := strOfNums (l.map fun n : Nat => (n : Int))
theorem bn_strOf (l : List Nat) (h : ∀ b ∈ l, b < 256) : bn (strOf l) = l := by
  unfold bn strOf
  rw [strOfNums_data, List.map_map, List.map_map]
  refine (List.map_congr_left (g := id) (fun b hb => ?_)).trans (List.map_id l)
  have := h b hb
  simp [Function.comp, Nat.mod_eq_of_lt this]
theorem strOf_size (l : List Nat) : (strOf l).size = l.length := by unfold strOf; rw [strOfNums_size, List.length_map]
theorem strOf_bn (s : ByteArray) : strOf (bn s) = s := bn_inj (bn_strOf _ (bn_lt s))

theorem info5 : (Tryz.prog.info? 5).map (fun i => (i.zero, i.size, i.bytes)) = some (some (.int .u8 0), 1, 1) := by kernel_rfl

def cells (l : List Nat) : List Value := l.map fun n : Nat => Value.int .u8 (n : Int)
theorem cells_append (l r : List Nat) : cells (l ++ r) = cells l ++ cells r := by simp [cells]

/-- bytes of one's own: a slice in new memory, which nobody else has -/
def Own (base : Nat) (w : World) (v : Value) (l : List Nat) : Prop := w.ownsRow base 5 1 v l.length (cells l)
theorem below_own {B : Nat} {w wr w1 : World} {v : Value} {l : List Nat} {o : Obj} (hB : B ≤ wr.heap.size) (hb : Below B w wr) (hown : Own B wr v l)
    (hg : (wr.alloc o).grownBy w1 v.ownBlock) : Below B w w1 := by
  refine (hb.alloc hB o).grown hg (by simp; omega) ?_
  intro k hk
  exact (World.ownsRow.lt hown k hk).1

/-- append of one byte to what is one's own, as the walk meets it: the byte stands in a new block -/
theorem app_one {ops : Array Oper} {rest : List Oper} {o : Oper} {a : Act} {Q : Exit → Act → World → Prop} {B : Nat} {w wr : World} {v : Value} {l : List Nat} {b : Nat}
    (hwant : Region.wanted o (yielded ops a.tmps) = true) (s x : Operand) (ho : o.op = .call { callee := .builtin .append, args := #[s, x], argTypes := #[140, 140] })
    (hs : a.eval s = v) (hx : a.eval x = .slice (some ⟨wr.heap.size, 0, none⟩) 1 1) (hB : B ≤ wr.heap.size) (hbel : Below B w wr) (hown : Own B wr v l) (hlen : l.length ≤ 1000)
    (h : ∀ a' cap' w', Own B w' (.slice a' (l.length + 1) cap') (l ++ [b]) → Below B w w' → wpList Tryz.prog ops Q rest (a.put o.dst (.slice a' (l.length + 1) cap')) w') :
    wpList Tryz.prog ops Q (o :: rest) a (wr.alloc (.cells #[.int .u8 (b : Int)] 5)) := by
  obtain ⟨i0, hi, hz0, hz1, hz2⟩ := info_parts info5
  obtain ⟨v', w', hr, ho', hg, _⟩ := run_append_own (P := Tryz.prog) (wr.alloc (.cells #[.int .u8 (b : Int)] 5)) B 140 o.type 5 i0 (.int .u8 0) 1 1 Tryz.underlying140 hi hz0 hz1 hz2 rfl (by decide) v l.length (cells l) (World.ownsRow.alloc hown _) ⟨wr.heap.size, 0, none⟩ 1 1 [.int .u8 (b : Int)] rfl
    (fun j u hj => by
      match j, hj with
      | 0, hj => simp at hj; subst hj; simp [Addr.add])
    (fun u hu => by simp at hu; subst hu; rfl) (by unfold maxLen; omega) (by omega) (by simp; omega)
  have hform : ∃ a' cap', v' = .slice a' (l.length + 1) cap' := by
    rcases ho'.2 with ⟨_, hn⟩ | ⟨g, cap, cur, e, _⟩
    · omega
    · exact ⟨_, _, e⟩
  obtain ⟨a', cap', rfl⟩ := hform
  have ho2 : Own B w' (.slice a' (l.length + 1) cap') (l ++ [b]) := by
    unfold Own
    rw [List.length_append, cells_append]
    exact ho'
  have hb2 : Below B w w' := below_own hB hbel hown hg
  refine BigFrame.wpList_want hwant fun K hK => ?_
  unfold Oper.wp execOp
  simp only [ho, resolve, invoke, builtin, Sem.run_bind, Sem.run_pure, Result.andThen_ok, List.map_toArray, List.map_cons, List.map_nil, hs, hx, hr]
  exact hK _ _ (h a' cap' w' ho2 hb2)

/-- string(b), of what is one's own -/
theorem conv_own {B : Nat} {w : World} {v : Value} {l : List Nat} (h : Own B w v l) : (convert 140 9 v).run Tryz.prog w = .ok (.string (strOf l)) w := by
  have h' := h
  obtain ⟨_, ⟨rfl, hn⟩ | ⟨g, cap, cur, rfl, _⟩⟩ := h
  · obtain rfl := List.length_eq_zero_iff.1 hn
    exact run_convert_bytes_nil w 140 5 Tryz.underlying140 Tryz.underlying5 0 0 9 Tryz.underlying9
  · exact run_convert_bytes_arg w 140 5 Tryz.underlying140 Tryz.underlying5 g 0 l.length cap _ (by simp) (fun i hi => by rw [Nat.zero_add, World.ownsRow.cellAt h' i (by omega)]; simp [cells, List.getElem?_eq_getElem hi]) 9 Tryz.underlying9
/-- string(b), of bytes that lie in a row -/
theorem conv_row (g cap : Nat) (l : List Nat) (w : World) (hc : ∀ i, i < l.length → w.cell? ⟨g, i, none⟩ = some (.int .u8 (l.getD i 0 : Nat))) :
    (convert 140 9 (.slice (some ⟨g, 0, none⟩) l.length cap)).run Tryz.prog w = .ok (.string (strOf l)) w :=
  run_convert_bytes_arg w 140 5 Tryz.underlying140 Tryz.underlying5 g 0 l.length cap _ (by simp) (fun i hi => by rw [Nat.zero_add, hc i hi]; simp [List.getElem?_eq_getElem hi]) 9 Tryz.underlying9
end Go.Proofs.YtdelobaiicoogaaGreatDoor.L4
