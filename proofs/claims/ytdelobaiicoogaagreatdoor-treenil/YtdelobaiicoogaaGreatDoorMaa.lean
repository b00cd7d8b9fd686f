/- Texts that the proof needs, one behind the other. -/
import Derived.Test.YtdelobaiicoogaaGreatDoorRows
import Derived.WalkKit
import Derived.ProofKit
import Derived.OpenShut
import Derived.WalkLawsBesides
import Derived.WalkSpells
import Derived.Outline
import Derived.BigFrame
import Derived.Deep.RegionHeld3
import Derived.Deep.QuietTactic
import Derived.BigQuiet
import Derived.Maps.RangeWalk
import Derived.Maps.Ext
import Derived.Laws.MakeOwn
import Derived.Maps.OwnSet
/- Plain mathematics of layer 5: sectors that are free, held, or wait. -/
namespace Go.Proofs.YtdelobaiicoogaaGreatDoor.L5

/-- what is known of a sector: nothing (it is free); its holders (without any it waits), and a generation -/
abbrev St := Option (Nat × Int)
def cntS : St → Nat
  | some (h, _) => h
  | none => 0
def waitS : St → Bool
  | some (0, _) => true
  | _ => false
def dueS (gen : Int) : St → Bool
  | some (0, g) => decide (g ≤ gen)
  | _ => false
def freeS : St → Bool
  | none => true
  | _ => false
def freedS (gen : Int) (s : St) : St := if dueS gen s = true then none else s
def holdS : St → St
  | some (h + 1, g) => some (h + 2, g)
  | s => s
def dropS (gen : Int) : St → St
  | some (1, g) => if g = gen then none else some (0, gen)
  | some (h + 2, g) => some (h + 1, g)
  | s => s

/-- numbers of 64 bits -/
def I64 (n : Int) : Prop := -9223372036854775808 ≤ n ∧ n ≤ 9223372036854775807
def goodS : St → Prop
  | some (h, g) => h ≤ 5000 ∧ I64 g
  | none => True
structure Ok (fr : Nat) (l : List St) : Prop where
  few : fr + l.length ≤ 4096
  good : ∀ s ∈ l, goodS s

abbrev In (fr : Nat) (l : List St) (n : Int) : Prop := (fr : Int) ≤ n ∧ n < (fr : Int) + (l.length : Int)
def ix (fr : Nat) (n : Int) : Nat := (n - (fr : Int)).toNat
def sec (fr : Nat) (l : List St) (n : Int) : St := if In fr l n then l.getD (ix fr n) none else none
def upd (fr : Nat) (l : List St) (n : Int) (s : St) : List St := if In fr l n then l.set (ix fr n) s else l

theorem ix_lt {fr : Nat} {l : List St} {n : Int} (h : In fr l n) : ix fr n < l.length := by unfold ix; unfold In at h; omega
theorem ix_eq {fr : Nat} {l : List St} {n : Int} (h : In fr l n) : ((fr + ix fr n : Nat) : Int) = n := by unfold ix; unfold In at h; omega
theorem sec_at {fr : Nat} {l : List St} {n : Int} (h : In fr l n) : l[ix fr n]? = some (sec fr l n) := by
  unfold sec
  rw [if_pos h, List.getD_eq_getElem?_getD, List.getElem?_eq_getElem (ix_lt h)]
  rfl
theorem sec_none {fr : Nat} {l : List St} {n : Int} (h : ¬ In fr l n) : sec fr l n = none := by unfold sec; rw [if_neg h]
theorem sec_some {fr : Nat} {l : List St} {n : Int} {x : Nat × Int} (h : sec fr l n = some x) : In fr l n := by
  by_cases hi : In fr l n
  · exact hi
  · rw [sec_none hi] at h
    cases h
theorem sec_of {fr : Nat} {l : List St} {i : Nat} (h : i < l.length) : sec fr l ((fr : Int) + (i : Int)) = l[i] := by
  have hi : In fr l ((fr : Int) + (i : Int)) := by unfold In; omega
  have e : ix fr ((fr : Int) + (i : Int)) = i := by unfold ix; omega
  have := sec_at hi
  rw [e, List.getElem?_eq_getElem h] at this
  exact (Option.some.inj this).symm
theorem upd_length (fr : Nat) (l : List St) (n : Int) (s : St) : (upd fr l n s).length = l.length := by
  unfold upd
  split
  · exact List.length_set
  · rfl
theorem upd_in {fr : Nat} {l : List St} {n : Int} (s : St) (h : In fr l n) : upd fr l n s = l.set (ix fr n) s := by unfold upd; rw [if_pos h]
theorem in_upd {fr : Nat} {l : List St} {n m : Int} {s : St} : In fr (upd fr l n s) m ↔ In fr l m := by unfold In; rw [upd_length]
theorem sec_upd {fr : Nat} {l : List St} {n : Int} {s : St} (h : In fr l n) : sec fr (upd fr l n s) n = s := by
  have h1 := sec_at ((in_upd (n := n) (s := s)).2 h)
  rw [upd_in s h, List.getElem?_set_self (ix_lt h)] at h1
  rw [upd_in s h]
  exact (Option.some.inj h1).symm
theorem sec_upd_ne {fr : Nat} {l : List St} {n m : Int} {s : St} (hne : m ≠ n) : sec fr (upd fr l n s) m = sec fr l m := by
  by_cases hn : In fr l n
  · by_cases hm : In fr l m
    · have h1 := sec_at (in_upd (n := n) (s := s) |>.2 hm)
      rw [upd_in s hn, List.getElem?_set_ne (by intro e; have h1 := ix_eq hn; have h2 := ix_eq hm; rw [e] at h1; omega), sec_at hm] at h1
      rw [upd_in s hn]
      exact (Option.some.inj h1).symm
    · rw [sec_none hm, sec_none (fun h => hm (in_upd.1 h))]
  · unfold upd
    rw [if_neg hn]

theorem Ok.upd {fr : Nat} {l : List St} (h : Ok fr l) (n : Int) {s : St} (hs : goodS s) : Ok fr (upd fr l n s) := by
  refine ⟨by rw [upd_length]; exact h.few, fun x hx => ?_⟩
  unfold Go.Proofs.YtdelobaiicoogaaGreatDoor.L5.upd at hx
  split at hx
  · rcases List.mem_or_eq_of_mem_set hx with hx | hx
    · exact h.good x hx
    · rw [hx]; exact hs
  · exact h.good x hx
theorem Ok.sec {fr : Nat} {l : List St} (h : Ok fr l) (n : Int) : goodS (sec fr l n) := by
  by_cases hi : In fr l n
  · exact h.good _ (List.mem_of_getElem? (sec_at hi))
  · rw [sec_none hi]; trivial

/-! what a call answers, and what it leaves -/
def newM (fr to : Nat) : List St := List.replicate (to - fr) none
def markE (fr : Nat) (l : List St) (n : Int) : Int := if In fr l n then (if sec fr l n = none then 0 else 103) else 31
def markM (fr : Nat) (l : List St) (n gen : Int) : List St := if sec fr l n = none then upd fr l n (some (1, gen)) else l
def holdE (fr : Nat) (l : List St) (n : Int) : Int := if cntS (sec fr l n) = 0 then 51 else if cntS (sec fr l n) = 5000 then 52 else 0
def holdM (fr : Nat) (l : List St) (n : Int) : List St := if cntS (sec fr l n) = 5000 then l else upd fr l n (holdS (sec fr l n))
def dropE (fr : Nat) (l : List St) (n : Int) : Int := if cntS (sec fr l n) = 0 then 51 else 0
def dropM (fr : Nat) (l : List St) (n gen : Int) : List St := upd fr l n (dropS gen (sec fr l n))
def freeM (l : List St) (gen : Int) : List St := l.map (freedS gen)
def freeN (l : List St) (gen : Int) : Nat := l.countP (dueS gen)
def room (l : List St) : Nat := l.countP freeS
def waiting (l : List St) : Nat := l.countP waitS
def takeI (l : List St) : Option Nat := l.findIdx? freeS
def takeN (fr : Nat) (l : List St) : Int := match takeI l with | some i => (fr : Int) + (i : Int) | none => 0
def takeE (l : List St) : Int := match takeI l with | some _ => 0 | none => 50
def takeM (l : List St) (gen : Int) : List St := match takeI l with | some i => l.set i (some (1, gen)) | none => l

theorem freeS_iff (s : St) : freeS s = true ↔ s = none := by cases s <;> simp [freeS]
theorem take_some {l : List St} {k : Nat} (h : l[k]? = some none) (hp : ∀ j, j < k → l[j]? ≠ some none) : takeI l = some k := by
  obtain ⟨hk, he⟩ := List.getElem?_eq_some_iff.1 h
  unfold takeI
  rw [List.findIdx?_eq_some_iff_getElem]
  refine ⟨hk, by rw [he]; rfl, fun j hj => ?_⟩
  have := hp j hj
  rw [List.getElem?_eq_getElem (by omega)] at this
  intro e
  exact this (by rw [(freeS_iff _).1 e])
theorem take_none {l : List St} (hp : ∀ j, j < l.length → l[j]? ≠ some none) : takeI l = none := by
  unfold takeI
  rw [List.findIdx?_eq_none_iff]
  intro x hx
  obtain ⟨j, hj, rfl⟩ := List.getElem_of_mem hx
  have := hp j hj
  rw [List.getElem?_eq_getElem hj] at this
  cases hq : l[j] with
  | none => exact absurd (by rw [hq]) this
  | some y => rfl

/-! counting by what is left to come -/
/-- how many with p are no longer to come -/
def tally (p : St → Bool) (left : Int → Bool) : Nat → List St → Nat
  | _, [] => 0
  | fr, s :: r => (if p s = true ∧ left (fr : Int) = false then 1 else 0) + tally p left (fr + 1) r
theorem tally_le (p : St → Bool) (left : Int → Bool) : ∀ (l : List St) (fr : Nat), tally p left fr l ≤ l.length
  | [], _ => Nat.le_refl _
  | s :: r, fr => by
    have := tally_le p left r (fr + 1)
    simp only [tally, List.length_cons]
    split <;> omega
theorem tally_congr (p : St → Bool) {left left' : Int → Bool} : ∀ (l : List St) (fr : Nat), (∀ i, (fr : Int) ≤ i → left i = left' i) → tally p left fr l = tally p left' fr l
  | [], _, _ => rfl
  | s :: r, fr, h => by
    simp only [tally]
    rw [h fr (Int.le_refl _), tally_congr p r (fr + 1) (fun i hi => h i (by omega))]
/-- the one at place i comes -/
theorem tally_step (p : St → Bool) (left : Int → Bool) : ∀ (l : List St) (fr i : Nat) (s : St), l[i]? = some s → left ((fr : Int) + (i : Int)) = true →
    tally p (fun z => left z && !decide (z = (fr : Int) + (i : Int))) fr l = tally p left fr l + (if p s = true then 1 else 0)
  | [], _, _, _, h, _ => by simp at h
  | x :: r, fr, 0, s, h, hl => by
    simp at h
    subst h
    simp only [tally, Int.natCast_zero, Int.add_zero] at hl ⊢
    rw [tally_congr p (left := fun z => left z && !decide (z = (fr : Int))) (left' := left) r (fr + 1) (fun i hi => by
      have : ¬ i = (fr : Int) := by omega
      simp [this])]
    rw [hl]
    simp
    omega
  | x :: r, fr, i + 1, s, h, hl => by
    simp only [List.getElem?_cons_succ] at h
    have e : (fr : Int) + ((i + 1 : Nat) : Int) = ((fr + 1 : Nat) : Int) + (i : Int) := by omega
    rw [e] at hl ⊢
    have ih := tally_step p left r (fr + 1) i s h hl
    simp only [tally]
    rw [ih]
    have hne : ¬ (fr : Int) = ((fr + 1 : Nat) : Int) + (i : Int) := by omega
    simp only [hne, decide_false, Bool.not_false, Bool.and_true]
    omega
theorem tally_end (p : St → Bool) (left : Int → Bool) : ∀ (l : List St) (fr : Nat), (∀ i, left i = false) → tally p left fr l = l.countP p
  | [], _, _ => rfl
  | s :: r, fr, h => by
    simp only [tally, List.countP_cons, h]
    rw [tally_end p left r (fr + 1) h]
    simp
    omega
theorem tally_start (p : St → Bool) (left : Int → Bool) : ∀ (l : List St) (fr : Nat), (∀ (i : Nat) (s : St), l[i]? = some s → p s = true → left ((fr : Int) + (i : Int)) = true) → tally p left fr l = 0
  | [], _, _ => rfl
  | s :: r, fr, h => by
    simp only [tally]
    rw [tally_start p left r (fr + 1) (fun i s hi hp => by
      have := h (i + 1) s (by simpa using hi) hp
      rwa [show (fr : Int) + ((i + 1 : Nat) : Int) = ((fr + 1 : Nat) : Int) + (i : Int) by omega] at this)]
    have h0 := h 0 s rfl
    rw [Int.natCast_zero, Int.add_zero] at h0
    split
    · rename_i hc
      rw [h0 hc.1] at hc
      cases hc.2
    · rfl
/-- what is freed of those that are no longer to come -/
def mix (gen : Int) (left : Int → Bool) : Nat → List St → List St
  | _, [] => []
  | fr, s :: r => (if left (fr : Int) = true then s else freedS gen s) :: mix gen left (fr + 1) r
theorem mix_length (gen : Int) (left : Int → Bool) : ∀ (l : List St) (fr : Nat), (mix gen left fr l).length = l.length
  | [], _ => rfl
  | s :: r, fr => by simp [mix, mix_length gen left r (fr + 1)]
theorem mix_at (gen : Int) (left : Int → Bool) : ∀ (l : List St) (fr i : Nat), (mix gen left fr l)[i]? = (l[i]?).map (fun s => if left ((fr : Int) + (i : Int)) = true then s else freedS gen s)
  | [], _, _ => by simp [mix]
  | s :: r, fr, 0 => by simp [mix]
  | s :: r, fr, i + 1 => by
    simp only [mix, List.getElem?_cons_succ]
    rw [mix_at gen left r (fr + 1) i, show (fr : Int) + ((i + 1 : Nat) : Int) = ((fr + 1 : Nat) : Int) + (i : Int) by omega]
theorem mix_step (gen : Int) (left : Int → Bool) (l : List St) (fr i : Nat) (s : St) (h : l[i]? = some s) :
    mix gen (fun z => left z && !decide (z = (fr : Int) + (i : Int))) fr l = (mix gen left fr l).set i (freedS gen s) := by
  apply List.ext_getElem?
  intro j
  rw [mix_at, List.getElem?_set, mix_length, mix_at]
  by_cases e : i = j
  · subst e
    obtain ⟨hl, rfl⟩ := List.getElem?_eq_some_iff.1 h
    simp [hl]
  · have hne : ¬ (fr : Int) + (j : Int) = (fr : Int) + (i : Int) := by omega
    simp [hne, e]
theorem mix_start (gen : Int) (left : Int → Bool) (l : List St) (fr : Nat) (h : ∀ (i : Nat) (x : Nat × Int), l[i]? = some (some x) → left ((fr : Int) + (i : Int)) = true) : mix gen left fr l = l := by
  apply List.ext_getElem?
  intro j
  rw [mix_at]
  cases hj : l[j]? with
  | none => rfl
  | some s =>
    cases s with
    | none => simp [freedS]
    | some x => simp [h j x hj]
theorem mix_end (gen : Int) (left : Int → Bool) (l : List St) (fr : Nat) (h : ∀ i, left i = false) : mix gen left fr l = freeM l gen := by
  apply List.ext_getElem?
  intro j
  rw [mix_at]
  simp [freeM, h]

theorem goodS_freed {gen : Int} {s : St} (h : goodS s) : goodS (freedS gen s) := by unfold freedS; split <;> trivial
theorem Ok.mix {fr : Nat} {l : List St} (h : Ok fr l) (gen : Int) (left : Int → Bool) : Ok fr (mix gen left fr l) := by
  refine ⟨by rw [mix_length]; exact h.few, fun s hs => ?_⟩
  obtain ⟨i, hi⟩ := List.getElem?_of_mem hs
  rw [mix_at] at hi
  cases hj : l[i]? with
  | none => rw [hj] at hi; cases hi
  | some x =>
    rw [hj] at hi
    have hx := h.good x (List.mem_of_getElem? hj)
    simp at hi
    subst hi
    split
    · exact hx
    · exact goodS_freed hx
theorem Ok.free {fr : Nat} {l : List St} (h : Ok fr l) (gen : Int) : Ok fr (freeM l gen) := by
  rw [← mix_end gen (fun _ => false) l fr (fun _ => rfl)]
  exact h.mix _ _
theorem Ok.take {fr : Nat} {l : List St} (h : Ok fr l) {gen : Int} (hg : I64 gen) : Ok fr (takeM l gen) := by
  unfold takeM
  split
  · refine ⟨by rw [List.length_set]; exact h.few, fun x hx => ?_⟩
    rcases List.mem_or_eq_of_mem_set hx with hx | hx
    · exact h.good x hx
    · rw [hx]; exact ⟨by decide, hg⟩
  · exact h
theorem Ok.mark {fr : Nat} {l : List St} (h : Ok fr l) (n : Int) {gen : Int} (hg : I64 gen) : Ok fr (markM fr l n gen) := by
  unfold markM
  split
  · exact h.upd n ⟨by decide, hg⟩
  · exact h
theorem Ok.hold {fr : Nat} {l : List St} (h : Ok fr l) (n : Int) : Ok fr (holdM fr l n) := by
  unfold holdM
  have hs := h.sec n
  split
  · exact h
  · rename_i hc
    refine h.upd n ?_
    cases hq : Go.Proofs.YtdelobaiicoogaaGreatDoor.L5.sec fr l n with
    | none => trivial
    | some x =>
      obtain ⟨c, g⟩ := x
      rw [hq] at hs hc
      cases c with
      | zero => exact hs
      | succ c =>
        have h1 : c + 1 ≤ 5000 := hs.1
        have h2 : ¬ c + 1 = 5000 := hc
        exact ⟨by omega, hs.2⟩
theorem Ok.drop {fr : Nat} {l : List St} (h : Ok fr l) (n : Int) {gen : Int} (hg : I64 gen) : Ok fr (dropM fr l n gen) := by
  unfold dropM
  have hs := h.sec n
  refine h.upd n ?_
  unfold dropS
  split
  · split
    · trivial
    · exact ⟨by decide, hg⟩
  · rename_i hq
    rw [hq] at hs
    exact ⟨by have := hs.1; omega, hs.2⟩
  · exact hs
theorem room_le (l : List St) : room l ≤ l.length := List.countP_le_length
theorem waiting_le (l : List St) : waiting l ≤ l.length := List.countP_le_length
theorem Ok.newM {fr to : Nat} (h : fr ≤ to) (h2 : to ≤ 4096) : Ok fr (newM fr to) := by
  refine ⟨by unfold Go.Proofs.YtdelobaiicoogaaGreatDoor.L5.newM; rw [List.length_replicate]; omega, fun s hs => ?_⟩
  rw [List.eq_of_mem_replicate hs]
  trivial
end Go.Proofs.YtdelobaiicoogaaGreatDoor.L5

/- Small words: what is hidden from the walk; nothing but these blocks has turned. -/
namespace Go.Proofs.YtdelobaiicoogaaGreatDoor.L5
open Go.ChangeShapes Go.WideShapes Go.ChangeAt Go.RowKit

theorem hide {p : Prop} (h : p) : Hid p := h
theorem unhide {p : Prop} (h : Hid p) : p := h

/-- nothing but these blocks has turned -/
structure Moves (fp : List Nat) (w w' : World) : Prop where
  os : w'.os = w.os
  tape : w'.tape = w.tape
  output : w'.output = w.output
  size : w.heap.size ≤ w'.heap.size
  block : ∀ k, k < w.heap.size → k ∉ fp → w'.heap[k]? = w.heap[k]?

theorem Moves.refl (fp : List Nat) (w : World) : Moves fp w w := ⟨rfl, rfl, rfl, Nat.le_refl _, fun _ _ _ => rfl⟩
theorem Moves.of_below {w w' : World} (fp : List Nat) (h : Below w.heap.size w w') : Moves fp w w' := ⟨h.os, h.tape, h.output, h.size, fun k hk _ => h.block k hk⟩
theorem Moves.to_below {w w' : World} (h : Moves [] w w') : Below w.heap.size w w' := ⟨h.os, h.tape, h.output, h.size, fun k hk => h.block k hk List.not_mem_nil⟩
theorem Moves.of_grown {w w' : World} {r : Option Nat} {fp : List Nat} (h : w.grownBy w' r) (hr : ∀ k, r = some k → k ∈ fp) : Moves fp w w' :=
  ⟨h.os, h.tape, h.output, h.size, fun k hk hn => h.block k hk (fun e => hn (hr k e.symm))⟩
theorem Moves.trans {fp fq : List Nat} {w w1 w2 : World} (h : Moves fp w w1) (k : Moves fq w1 w2) (hq : ∀ x ∈ fq, x ∈ fp ∨ w.heap.size ≤ x) : Moves fp w w2 :=
  ⟨k.os.trans h.os, k.tape.trans h.tape, k.output.trans h.output, Nat.le_trans h.size k.size, fun i hi hn => (k.block i (Nat.lt_of_lt_of_le hi h.size) (fun hm => by
    rcases hq i hm with h1 | h1
    · exact hn h1
    · omega)).trans (h.block i hi hn)⟩
theorem Moves.then {fp : List Nat} {w w1 w2 : World} (h : Moves fp w w1) (k : Moves fp w1 w2) : Moves fp w w2 := h.trans k (fun _ hx => .inl hx)
theorem Moves.mono {fp fq : List Nat} {w w1 : World} (h : Moves fp w w1) (hs : ∀ x ∈ fp, x ∈ fq ∨ w.heap.size ≤ x) : Moves fq w w1 := (Moves.refl fq w).trans h hs
theorem Moves.below {fp : List Nat} {B : Nat} {w0 w w' : World} (h0 : Below B w0 w) (h : Moves fp w w') (hfp : ∀ x ∈ fp, B ≤ x) (hB : B ≤ w.heap.size) : Below B w0 w' :=
  h0.trans ⟨h.os, h.tape, h.output, h.size, fun k hk => h.block k (by omega) (fun hm => by have := hfp k hm; omega)⟩
theorem Moves.set (w : World) (g j : Nat) (u : Value) {fp : List Nat} (hg : g ∈ fp) : Moves fp w (w.setCell ⟨g, j, none⟩ u) :=
  ⟨rfl, rfl, rfl, by simp, fun k _ hn => Below.heap_setCell w ⟨g, j, none⟩ u k (fun e => hn (by rw [e]; exact hg))⟩
theorem Moves.cell {fp : List Nat} {w w' : World} (h : Moves fp w w') {a : Addr} {v : Value} (hc : w.cell? a = some v) (hn : a.block ∉ fp) : w'.cell? a = some v :=
  (World.cell?_of_block (h.block a.block (World.block_lt_of_cell? w a hc) hn)).trans hc
theorem Moves.alloc (fp : List Nat) (w : World) (o : Obj) : Moves fp w (w.alloc o) := Moves.of_below fp ((Below.refl _ w).alloc (Nat.le_refl _) o)
theorem Moves.drew (fp : List Nat) (w : World) : Moves fp w w.drew := Moves.of_below fp (Below.refl _ w).drew
end Go.Proofs.YtdelobaiicoogaaGreatDoor.L5

/- Maps of the program with numbers as keys, as functions: whatever their values are, told by a reading that no two values have in common. -/
namespace Go.Proofs.YtdelobaiicoogaaGreatDoor
open Go.ChangeShapes Go.WideShapes Go.ChangeAt Go.RowKit Go.Maps

abbrev Rdg := Value → Option (DataW Unit × List MemPlace)
/-- no two values read alike -/
def Apart (R : Rdg) : Prop := ∀ v v' d ps ps', R v = some (d, ps) → R v' = some (d, ps') → v = v'

theorem law3 : Keyed Tryz.prog 3 := int_keyed Tryz.underlying3
theorem key3 {n : Int} (h0 : 0 ≤ n) (h1 : n < 4096) : keyOf Tryz.prog 3 (.int .i64 n) = some (.int .i64 n) := keyOf_int_mk Tryz.underlying3 (WalkArith.wf_i64 (by omega))

/-- block b is a map of at most k entries, and holds these -/
def Vm (R : Rdg) (w : World) (b k : Nat) (f : Nat → Option Value) : Prop :=
  ∃ D, w.ownsMap Tryz.prog 3 R b k D ∧ ∀ i : Nat, i < 4096 → (Maps.has D (.int .i64 (i : Int)) = (f i).isSome ∧ ∀ v, f i = some v → ∃ d ps, R v = some (d, ps) ∧ ∀ z, D.atKey (.int .i64 (i : Int)) z = d)

variable {R : Rdg} {w w' : World} {b k : Nat} {f : Nat → Option Value}

theorem Vm.lt (h : Vm R w b k f) : b < w.heap.size := by
  obtain ⟨D, h, _⟩ := h
  exact h.lt
theorem Vm.mono {k' : Nat} (h : Vm R w b k f) (hk : k ≤ k') : Vm R w b k' f := by
  obtain ⟨D, h, r⟩ := h
  exact ⟨D, h.mono hk, r⟩
theorem Vm.same (h : Vm R w b k f) (hb : w'.heap[b]? = w.heap[b]?) : Vm R w' b k f := by
  obtain ⟨D, ⟨es, clock, h1, r1⟩, r⟩ := h
  exact ⟨D, ⟨es, clock, hb.trans h1, r1⟩, r⟩
theorem Vm.kind (h : Vm R w b k f) : ∃ es clock, w.heap[b]? = some (.map es clock) := by
  obtain ⟨D, ⟨es, clock, h1, _⟩, _⟩ := h
  exact ⟨es, clock, h1⟩
theorem Vm.made (R : Rdg) (w : World) : Vm R (w.alloc (.map #[] 0)) w.heap.size 0 (fun _ => none) :=
  ⟨_, World.ownsMap_made w Tryz.prog 3 R, fun i _ => ⟨rfl, fun s h => by cases h⟩⟩

theorem Vm.look (h : Vm R w b k f) (hR : Apart R) {t e : TypeId} (ht : Tryz.prog.underlying t = some (.map 3 e)) {z : Value} (hz : (zeroValue e).run Tryz.prog w = .ok z w) {zd : DataW Unit} {zp : List MemPlace} (hzd : R z = some (zd, zp))
    {n : Int} (h0 : 0 ≤ n) (h1 : n < 4096) :
    (Instr.lookup t (.map (some b)) (.int .i64 n) false).run Tryz.prog w = .ok ((f n.toNat).getD z) w := by
  obtain ⟨D, hown, hr⟩ := h
  obtain ⟨v, ps, hrun, hv⟩ := hown.lookup law3 ht hz hzd (key3 h0 h1)
  have e : ((n.toNat : Nat) : Int) = n := Int.toNat_of_nonneg h0
  have h2 := hr n.toNat (by omega)
  rw [e] at h2
  rw [hrun]
  cases hf : f n.toNat with
  | none =>
    rw [hf] at h2
    rw [Maps.atKey_of_not_has h2.1] at hv
    rw [hR _ _ _ _ _ hv hzd]
    rfl
  | some u =>
    obtain ⟨d, qs, hu, hd⟩ := h2.2 u hf
    rw [hd] at hv
    rw [hR _ _ _ _ _ hv hu]
    rfl
/-- a key that is none of ours -/
theorem Vm.store (h : Vm R w b k f) {t e : TypeId} (ht : Tryz.prog.underlying t = some (.map 3 e)) {n : Int} (h0 : 0 ≤ n) (h1 : n < 4096) {u : Value} {d : DataW Unit} {ps : List MemPlace} (hu : R u = some (d, ps)) (hk : k < maxLen) :
    ∃ w', (Instr.mapUpdate t (.map (some b)) (.int .i64 n) u).run Tryz.prog w = .ok () w' ∧ Vm R w' b (k + 1) (fun i => if i = n.toNat then some u else f i) ∧ w.grownBy w' (some b) := by
  obtain ⟨D, hown, hr⟩ := h
  obtain ⟨w', hrun, hown', hg⟩ := hown.update law3 ht hk (key3 h0 h1) hu
  refine ⟨w', hrun, ⟨_, hown', fun i hi => ?_⟩, hg⟩
  have e : ((n.toNat : Nat) : Int) = n := Int.toNat_of_nonneg h0
  dsimp only
  by_cases hin : i = n.toNat
  · subst hin
    rw [e, if_pos rfl]
    refine ⟨by rw [Maps.has_put_same hown.isMap (law3.key (key3 h0 h1))]; rfl, fun t ht => ?_⟩
    cases ht
    exact ⟨d, ps, hu, fun z => Maps.atKey_put_same hown.isMap (law3.key (key3 h0 h1)) _ _⟩
  · rw [if_neg hin]
    have hne : Lit.int .i64 (i : Int) ≠ Lit.int .i64 n := by
      intro e'
      simp at e'
      omega
    rw [Maps.has_put_other hne]
    refine ⟨(hr i hi).1, fun t ht => ?_⟩
    obtain ⟨d', ps', h1, h2⟩ := (hr i hi).2 t ht
    exact ⟨d', ps', h1, fun z => by rw [Maps.atKey_put_other hne]; exact h2 z⟩
theorem Vm.del (h : Vm R w b k f) {t e : TypeId} (ht : Tryz.prog.underlying t = some (.map 3 e)) {n : Int} (h0 : 0 ≤ n) (h1 : n < 4096) (ty : TypeId) :
    ∃ w', (Builtin.delete_ #[t, 3] ty #[.map (some b), .int .i64 n]).run Tryz.prog w = .ok (.tuple #[]) w' ∧ Vm R w' b k (fun i => if i = n.toNat then none else f i) ∧ w.grownBy w' (some b) := by
  obtain ⟨D, hown, hr⟩ := h
  obtain ⟨w', hrun, hown', hg⟩ := hown.drop law3 ht (key3 h0 h1) ty
  refine ⟨w', hrun, ⟨_, hown', fun i hi => ?_⟩, hg.grown⟩
  have e : ((n.toNat : Nat) : Int) = n := Int.toNat_of_nonneg h0
  dsimp only
  by_cases hin : i = n.toNat
  · subst hin
    rw [e, if_pos rfl]
    exact ⟨by rw [Maps.has_del_same]; rfl, fun t ht => by cases ht⟩
  · rw [if_neg hin]
    have hne : Lit.int .i64 (i : Int) ≠ Lit.int .i64 n := by
      intro e'
      simp at e'
      omega
    rw [Maps.has_del_other hne]
    refine ⟨(hr i hi).1, fun t ht => ?_⟩
    obtain ⟨d', ps', h1, h2⟩ := (hr i hi).2 t ht
    exact ⟨d', ps', h1, fun z => by rw [Maps.atKey_del_other hne]; exact h2 z⟩

/-- how a slice in a map reads: by where it stands -/
def slR : Rdg
  | .slice none n c => some (.agg [.lit (.int .i64 (n : Int)), .lit (.int .i64 (c : Int))], [])
  | .slice (some ⟨g, i, none⟩) n c => some (.agg [.lit (.int .i64 (g : Int)), .lit (.int .i64 (i : Int)), .lit (.int .i64 (n : Int)), .lit (.int .i64 (c : Int))], [])
  | _ => none
theorem slR_apart : Apart slR := by
  intro v v' d ps ps' h h'
  unfold slR at h h'
  split at h <;> split at h' <;> simp_all
  · obtain ⟨rfl, _⟩ := h
    simp at h'
    omega
  · obtain ⟨rfl, _⟩ := h
    simp at h'
  · obtain ⟨rfl, _⟩ := h
    simp at h'
  · obtain ⟨rfl, _⟩ := h
    simp at h'
    omega
/-- how a number in a map reads -/
def inR : Rdg
  | .int .i64 n => some (.lit (.int .i64 n), [])
  | _ => none
theorem inR_apart : Apart inR := by
  intro v v' d ps ps' h h'
  unfold inR at h h'
  split at h <;> split at h' <;> simp_all
  obtain ⟨rfl, _⟩ := h
  simp at h'
  omega
theorem zero39 (w : World) : (zeroValue 71).run Tryz.prog w = .ok (.slice none 0 0) w := by kernel_rfl
theorem zero3 (w : World) : (zeroValue 3).run Tryz.prog w = .ok (.int .i64 0) w := by kernel_rfl
end Go.Proofs.YtdelobaiicoogaaGreatDoor

/- Plain mathematics of a disk: what the document says, as functions; nothing of any program. -/
namespace Go.Proofs.YtdelobaiicoogaaGreatDoor.L3

/-- a disk as the document has it: what was flushed, what is open, how many calls the power has (below 0: it stays), is it gone? -/
structure Dk where
  old : List ByteArray
  op : List (Nat × ByteArray)
  left : Int
  gone : Bool

/-- the last open write that names this sector -/
def lastW (op : List (Nat × ByteArray)) (i : Nat) : Option ByteArray := op.foldl (fun acc p => if p.1 = i then some p.2 else acc) none

theorem lastW_snoc (op : List (Nat × ByteArray)) (p : Nat × ByteArray) (i : Nat) : lastW (op ++ [p]) i = if p.1 = i then some p.2 else lastW op i := by
  unfold lastW
  rw [List.foldl_append]
  rfl
theorem lastW_nil (i : Nat) : lastW [] i = none := rfl

def flushL (old : List ByteArray) (op : List (Nat × ByteArray)) : List ByteArray := op.foldl (fun l p => l.set p.1 p.2) old
theorem flushL_snoc (old : List ByteArray) (op : List (Nat × ByteArray)) (p : Nat × ByteArray) : flushL old (op ++ [p]) = (flushL old op).set p.1 p.2 := by
  unfold flushL
  rw [List.foldl_append]
  rfl

/-- a list's property from one that grows at its end -/
theorem snoc_ind {α : Type} {p : List α → Prop} (h0 : p []) (h1 : ∀ l x, p l → p (l ++ [x])) : ∀ l, p l := by
  intro l
  have : ∀ n, ∀ l : List α, l.length = n → p l := by
    intro n
    induction n with
    | zero => intro l hl; rw [List.length_eq_zero_iff.1 hl]; exact h0
    | succ n ih =>
      intro l hl
      have hne : l ≠ [] := by intro e; rw [e] at hl; simp at hl
      rw [← List.dropLast_concat_getLast hne]
      exact h1 _ _ (ih _ (by rw [List.length_dropLast]; omega))
  exact this _ l rfl

theorem flushL_length (old : List ByteArray) (op : List (Nat × ByteArray)) : (flushL old op).length = old.length := by
  induction op using snoc_ind with
  | h0 => rfl
  | h1 l x ih => rw [flushL_snoc, List.length_set, ih]

theorem flushL_get (old : List ByteArray) (op : List (Nat × ByteArray)) (i : Nat) (hi : i < old.length) (z : ByteArray) : (flushL old op).getD i z = (lastW op i).getD (old.getD i z) := by
  induction op using snoc_ind with
  | h0 => rfl
  | h1 l x ih =>
    rw [flushL_snoc, lastW_snoc, List.getD_eq_getElem?_getD, List.getElem?_set]
    split
    · rename_i h
      rw [if_pos (by rw [flushL_length]; omega)]
      simp
    · rw [← List.getD_eq_getElem?_getD, ih]

/-- a sector's bytes where a write is torn: the first k are the write's -/
def tearK (old data : ByteArray) (k : Nat) : ByteArray := data.extract 0 k ++ old.extract k old.size
/-- what a write leaves, by its fate -/
def tear (old data : ByteArray) (f : Int) : ByteArray := if f < 1 then old else if f = 1 then data else tearK old data (f.toNat % 1024)

def crashL (old : List ByteArray) (l : List ((Nat × ByteArray) × Int)) : List ByteArray := l.foldl (fun s p => s.set p.1.1 (tear (s.getD p.1.1 ByteArray.empty) p.1.2 p.2)) old
theorem crashL_snoc (old : List ByteArray) (l : List ((Nat × ByteArray) × Int)) (p : (Nat × ByteArray) × Int) :
    crashL old (l ++ [p]) = (crashL old l).set p.1.1 (tear ((crashL old l).getD p.1.1 ByteArray.empty) p.1.2 p.2) := by
  unfold crashL
  rw [List.foldl_append]
  rfl
theorem crashL_length (old : List ByteArray) (l : List ((Nat × ByteArray) × Int)) : (crashL old l).length = old.length := by
  induction l using snoc_ind with
  | h0 => rfl
  | h1 l x ih => rw [crashL_snoc, List.length_set, ih]

theorem set_same (l : List ByteArray) (i : Nat) (z : ByteArray) : l.set i (l.getD i z) = l := by
  apply List.ext_getElem?
  intro j
  rw [List.getElem?_set]
  split
  · rename_i h
    subst h
    split
    · rename_i h
      rw [List.getD_eq_getElem?_getD, List.getElem?_eq_getElem h]
      rfl
    · rename_i h
      rw [List.getElem?_eq_none (by omega)]
  · rfl

/-- the answers -/
def readM (m : Dk) (n : Int) : ByteArray × Int :=
  if m.gone = true then (ByteArray.empty, 30) else if n < 0 ∨ (m.old.length : Int) ≤ n then (ByteArray.empty, 31) else ((lastW m.op n.toNat).getD (m.old.getD n.toNat ByteArray.empty), 0)
def spent (l : Int) : Int := if 0 < l then l - 1 else l
def writeE (m : Dk) (n : Int) (data : ByteArray) : Int :=
  if m.gone = true then 30 else if m.left = 0 then 30 else if n < 0 ∨ (m.old.length : Int) ≤ n then 31 else if data.size ≠ 1024 then 32 else 0
def writeM (m : Dk) (n : Int) (data : ByteArray) : Dk :=
  if m.gone = true then m else if m.left = 0 then { m with gone := true } else if n < 0 ∨ (m.old.length : Int) ≤ n then m else if data.size ≠ 1024 then m
  else { m with left := spent m.left, op := m.op ++ [(n.toNat, data)] }
def flushE (m : Dk) : Int := if m.gone = true then 30 else if m.left = 0 then 30 else 0
def flushM (m : Dk) : Dk :=
  if m.gone = true then m else if m.left = 0 then { m with gone := true } else { m with left := spent m.left, old := flushL m.old m.op, op := [] }
def powerM (m : Dk) (c : Int) : Dk := if m.gone = true then m else { m with left := max c (-1) }
def crashM (m : Dk) (fs : List Int) : Dk := { old := crashL m.old (m.op.zip fs), op := [], left := -1, gone := false }

/-- what holds of every disk: sectors have 1024 bytes, open writes name sectors and have as many -/
structure Ok (m : Dk) : Prop where
  old : ∀ i, i < m.old.length → (m.old.getD i ByteArray.empty).size = 1024
  op : ∀ p ∈ m.op, p.1 < m.old.length ∧ p.2.size = 1024
  left : -1 ≤ m.left ∧ m.left ≤ 9223372036854775807
  many : m.old.length ≤ 4096

theorem spent_in {l : Int} (h : -1 ≤ l ∧ l ≤ 9223372036854775807) : -1 ≤ spent l ∧ spent l ≤ 9223372036854775807 := by
  unfold spent
  split <;> omega

theorem lastW_mem (op : List (Nat × ByteArray)) (i : Nat) (s : ByteArray) : lastW op i = some s → (i, s) ∈ op := by
  induction op using snoc_ind with
  | h0 => intro h; cases h
  | h1 l x ih =>
    intro h
    rw [lastW_snoc] at h
    split at h
    · rename_i e
      cases h
      subst e
      exact List.mem_append_right _ (by simp)
    · exact List.mem_append_left _ (ih h)

theorem ok_write {m : Dk} (h : Ok m) (n : Int) (data : ByteArray) : Ok (writeM m n data) := by
  unfold writeM
  split
  · exact h
  · split
    · exact ⟨h.old, h.op, h.left, h.many⟩
    · split
      · exact h
      · split
        · exact h
        · refine ⟨h.old, ?_, spent_in h.left, h.many⟩
          intro p hp
          rcases List.mem_append.1 hp with hp | hp
          · exact h.op p hp
          · rename_i h1 h2
            simp at hp
            subst hp
            exact ⟨by show n.toNat < m.old.length; omega, by show data.size = 1024; omega⟩

theorem ok_flush {m : Dk} (h : Ok m) : Ok (flushM m) := by
  unfold flushM
  split
  · exact h
  · split
    · exact ⟨h.old, h.op, h.left, h.many⟩
    · refine ⟨?_, (fun p hp => absurd hp List.not_mem_nil), spent_in h.left, ?_⟩
      · intro i hi
        rw [flushL_length] at hi
        show ((flushL m.old m.op).getD i ByteArray.empty).size = 1024
        rw [flushL_get _ _ _ hi]
        cases hl : lastW m.op i with
        | none => exact h.old i hi
        | some s => exact (h.op _ (lastW_mem _ _ _ hl)).2
      · show (flushL m.old m.op).length ≤ 4096
        rw [flushL_length]
        exact h.many

theorem ok_power {m : Dk} (h : Ok m) (c : Int) (hc : c ≤ 9223372036854775807) : Ok (powerM m c) := by
  unfold powerM
  split
  · exact h
  · refine ⟨h.old, h.op, ?_, h.many⟩
    show -1 ≤ max c (-1) ∧ max c (-1) ≤ 9223372036854775807
    omega

theorem tear_size {old data : ByteArray} (f : Int) (h1 : old.size = 1024) (h2 : data.size = 1024) : (tear old data f).size = 1024 := by
  unfold tear
  split
  · exact h1
  · split
    · exact h2
    · unfold tearK
      rw [ByteArray.size_append, ByteArray.size_extract, ByteArray.size_extract]
      omega

theorem crashL_size {m : Dk} (h : Ok m) (fs : List Int) (j : Nat) : ∀ i, i < m.old.length → ((crashL m.old ((m.op.zip fs).take j)).getD i ByteArray.empty).size = 1024 := by
  have key : ∀ l : List ((Nat × ByteArray) × Int), (∀ p ∈ l, p.1 ∈ m.op) → ∀ i, i < m.old.length → ((crashL m.old l).getD i ByteArray.empty).size = 1024 := by
    intro l
    induction l using snoc_ind with
    | h0 => intro _; exact h.old
    | h1 l x ih =>
      intro hl i hi
      have ih' := ih (fun p hp => hl p (List.mem_append_left _ hp))
      have hx := h.op _ (hl x (List.mem_append_right _ (by simp)))
      rw [crashL_snoc, List.getD_eq_getElem?_getD, List.getElem?_set]
      split
      · rename_i e
        subst e
        rw [if_pos (by rw [crashL_length]; exact hx.1)]
        exact tear_size _ (ih' _ hx.1) hx.2
      · rw [← List.getD_eq_getElem?_getD]
        exact ih' i hi
  refine key _ (fun p hp => ?_)
  have := List.mem_of_mem_take hp
  exact (List.of_mem_zip (a := p.1) (b := p.2) this).1

theorem ok_crash {m : Dk} (h : Ok m) (fs : List Int) : Ok (crashM m fs) := by
  refine ⟨?_, (fun p hp => absurd hp List.not_mem_nil), (by show (-1 : Int) ≤ -1 ∧ (-1 : Int) ≤ 9223372036854775807; omega), ?_⟩
  · intro i hi
    have hi' : i < m.old.length := by rw [show (crashM m fs).old = crashL m.old (m.op.zip fs) from rfl, crashL_length] at hi; exact hi
    have := crashL_size h fs (m.op.zip fs).length i hi'
    rw [List.take_length] at this
    exact this
  · show (crashL m.old (m.op.zip fs)).length ≤ 4096
    rw [crashL_length]
    exact h.many

/-- one more of the writes that a crash goes through -/
theorem crash_take (old : List ByteArray) (op : List (Nat × ByteArray)) (fs : List Int) (j : Nat) (h1 : j < op.length) (h2 : j < fs.length) :
    crashL old ((op.zip fs).take (j + 1)) = (crashL old ((op.zip fs).take j)).set op[j].1 (tear ((crashL old ((op.zip fs).take j)).getD op[j].1 ByteArray.empty) op[j].2 fs[j]) := by
  have hl : j < (op.zip fs).length := by rw [List.length_zip]; omega
  rw [List.take_add_one, List.getElem?_eq_getElem hl]
  show crashL old ((op.zip fs).take j ++ [(op.zip fs)[j]]) = _
  rw [crashL_snoc, List.getElem_zip]
end Go.Proofs.YtdelobaiicoogaaGreatDoor.L3
