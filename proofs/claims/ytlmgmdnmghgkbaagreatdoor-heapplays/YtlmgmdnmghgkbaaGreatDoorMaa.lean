/- Texts that the proof needs, one behind the other. -/
import Derived.Test.YtlmgmdnmghgkbaaGreatDoorRows
import Derived.WalkKit
import Derived.ProofKit
import Derived.OpenShut
import Derived.WalkLawsBesides
import Derived.WalkSpells
import Derived.Outline
import Derived.BigFrame
import Derived.Deep.RegionHeld3
import Derived.Deep.QuietTactic
import Derived.BigQuiet
import Derived.Maps.RangeWalk
import Derived.Maps.Ext
import Derived.Laws.MakeOwn
import Derived.Maps.OwnSet
import Derived.Laws.BitsAllLaws
import Derived.Deep.AppendLies
import Derived.Laws.BytesArg
import Derived.LoopN
/- Plain mathematics of layer 5: sectors that are free, held, or wait. -/
namespace Go.Proofs.YtlmgmdnmghgkbaaGreatDoor.L5

/-- what is known of a sector: nothing (it is free); its holders (without any it waits), and a generation -/
abbrev St := Option (Nat × Int)
def cntS : St → Nat
  | some (h, _) => h
  | none => 0
def waitS : St → Bool
  | some (0, _) => true
  | _ => false
def dueS (gen : Int) : St → Bool
  | some (0, g) => decide (g ≤ gen)
  | _ => false
def freeS : St → Bool
  | none => true
  | _ => false
def freedS (gen : Int) (s : St) : St := if dueS gen s = true then none else s
def holdS : St → St
  | some (h + 1, g) => some (h + 2, g)
  | s => s
def dropS (gen : Int) : St → St
  | some (1, g) => if g = gen then none else some (0, gen)
  | some (h + 2, g) => some (h + 1, g)
  | s => s

/-- numbers of 64 bits -/
def I64 (n : Int) : Prop := -9223372036854775808 ≤ n ∧ n ≤ 9223372036854775807
def goodS : St → Prop
  | some (h, g) => h ≤ 5000 ∧ I64 g
  | none => True
structure Ok (fr : Nat) (l : List St) : Prop where
  few : fr + l.length ≤ 4096
  good : ∀ s ∈ l, goodS s

abbrev In (fr : Nat) (l : List St) (n : Int) : Prop := (fr : Int) ≤ n ∧ n < (fr : Int) + (l.length : Int)
def ix (fr : Nat) (n : Int) : Nat := (n - (fr : Int)).toNat
def sec (fr : Nat) (l : List St) (n : Int) : St := if In fr l n then l.getD (ix fr n) none else none
def upd (fr : Nat) (l : List St) (n : Int) (s : St) : List St := if In fr l n then l.set (ix fr n) s else l

theorem ix_lt {fr : Nat} {l : List St} {n : Int} (h : In fr l n) : ix fr n < l.length := by unfold ix; unfold In at h; omega
theorem ix_eq {fr : Nat} {l : List St} {n : Int} (h : In fr l n) : ((fr + ix fr n : Nat) : Int) = n := by unfold ix; unfold In at h; omega
theorem sec_at {fr : Nat} {l : List St} {n : Int} (h : In fr l n) : l[ix fr n]? = some (sec fr l n) := by
  unfold sec
  rw [if_pos h, List.getD_eq_getElem?_getD, List.getElem?_eq_getElem (ix_lt h)]
  rfl
theorem sec_none {fr : Nat} {l : List St} {n : Int} (h : ¬ In fr l n) : sec fr l n = none := by unfold sec; rw [if_neg h]
theorem sec_some {fr : Nat} {l : List St} {n : Int} {x : Nat × Int} (h : sec fr l n = some x) : In fr l n := by
  by_cases hi : In fr l n
  · exact hi
  · rw [sec_none hi] at h
    cases h
theorem sec_of {fr : Nat} {l : List St} {i : Nat} (h : i < l.length) : sec fr l ((fr : Int) + (i : Int)) = l[i] := by
  have hi : In fr l ((fr : Int) + (i : Int)) := by unfold In; omega
  have e : ix fr ((fr : Int) + (i : Int)) = i := by unfold ix; omega
  have := sec_at hi
  rw [e, List.getElem?_eq_getElem h] at this
  exact (Option.some.inj this).symm
theorem upd_length (fr : Nat) (l : List St) (n : Int) (s : St) : (upd fr l n s).length = l.length := by
  unfold upd
  split
  · exact List.length_set
  · rfl
theorem upd_in {fr : Nat} {l : List St} {n : Int} (s : St) (h : In fr l n) : upd fr l n s = l.set (ix fr n) s := by unfold upd; rw [if_pos h]
theorem in_upd {fr : Nat} {l : List St} {n m : Int} {s : St} : In fr (upd fr l n s) m ↔ In fr l m := by unfold In; rw [upd_length]
theorem sec_upd {fr : Nat} {l : List St} {n : Int} {s : St} (h : In fr l n) : sec fr (upd fr l n s) n = s := by
  have h1 := sec_at ((in_upd (n := n) (s := s)).2 h)
  rw [upd_in s h, List.getElem?_set_self (ix_lt h)] at h1
  rw [upd_in s h]
  exact (Option.some.inj h1).symm
theorem sec_upd_ne {fr : Nat} {l : List St} {n m : Int} {s : St} (hne : m ≠ n) : sec fr (upd fr l n s) m = sec fr l m := by
  by_cases hn : In fr l n
  · by_cases hm : In fr l m
    · have h1 := sec_at (in_upd (n := n) (s := s) |>.2 hm)
      rw [upd_in s hn, List.getElem?_set_ne (by intro e; have h1 := ix_eq hn; have h2 := ix_eq hm; rw [e] at h1; omega), sec_at hm] at h1
      rw [upd_in s hn]
      exact (Option.some.inj h1).symm
    · rw [sec_none hm, sec_none (fun h => hm (in_upd.1 h))]
  · unfold upd
    rw [if_neg hn]

theorem Ok.upd {fr : Nat} {l : List St} (h : Ok fr l) (n : Int) {s : St} (hs : goodS s) : Ok fr (upd fr l n s) := by
  refine ⟨by rw [upd_length]; exact h.few, fun x hx => ?_⟩
  unfold Go.Proofs.YtlmgmdnmghgkbaaGreatDoor.L5.upd at hx
  split at hx
  · rcases List.mem_or_eq_of_mem_set hx with hx | hx
    · exact h.good x hx
    · rw [hx]; exact hs
  · exact h.good x hx
theorem Ok.sec {fr : Nat} {l : List St} (h : Ok fr l) (n : Int) : goodS (sec fr l n) := by
  by_cases hi : In fr l n
  · exact h.good _ (List.mem_of_getElem? (sec_at hi))
  · rw [sec_none hi]; trivial

/-! what a call answers, and what it leaves -/
def newM (fr to : Nat) : List St := List.replicate (to - fr) none
def markE (fr : Nat) (l : List St) (n : Int) : Int := if In fr l n then (if sec fr l n = none then 0 else 103) else 31
def markM (fr : Nat) (l : List St) (n gen : Int) : List St := if sec fr l n = none then upd fr l n (some (1, gen)) else l
def holdE (fr : Nat) (l : List St) (n : Int) : Int := if cntS (sec fr l n) = 0 then 51 else if cntS (sec fr l n) = 5000 then 52 else 0
def holdM (fr : Nat) (l : List St) (n : Int) : List St := if cntS (sec fr l n) = 5000 then l else upd fr l n (holdS (sec fr l n))
def dropE (fr : Nat) (l : List St) (n : Int) : Int := if cntS (sec fr l n) = 0 then 51 else 0
def dropM (fr : Nat) (l : List St) (n gen : Int) : List St := upd fr l n (dropS gen (sec fr l n))
def freeM (l : List St) (gen : Int) : List St := l.map (freedS gen)
def freeN (l : List St) (gen : Int) : Nat := l.countP (dueS gen)
def room (l : List St) : Nat := l.countP freeS
def waiting (l : List St) : Nat := l.countP waitS
def takeI (l : List St) : Option Nat := l.findIdx? freeS
def takeN (fr : Nat) (l : List St) : Int := match takeI l with | some i => (fr : Int) + (i : Int) | none => 0
def takeE (l : List St) : Int := match takeI l with | some _ => 0 | none => 50
def takeM (l : List St) (gen : Int) : List St := match takeI l with | some i => l.set i (some (1, gen)) | none => l

theorem freeS_iff (s : St) : freeS s = true ↔ s = none := by cases s <;> simp [freeS]
theorem take_some {l : List St} {k : Nat} (h : l[k]? = some none) (hp : ∀ j, j < k → l[j]? ≠ some none) : takeI l = some k := by
  obtain ⟨hk, he⟩ := List.getElem?_eq_some_iff.1 h
  unfold takeI
  rw [List.findIdx?_eq_some_iff_getElem]
  refine ⟨hk, by rw [he]; rfl, fun j hj => ?_⟩
  have := hp j hj
  rw [List.getElem?_eq_getElem (by omega)] at this
  intro e
  exact this (by rw [(freeS_iff _).1 e])
theorem take_none {l : List St} (hp : ∀ j, j < l.length → l[j]? ≠ some none) : takeI l = none := by
  unfold takeI
  rw [List.findIdx?_eq_none_iff]
  intro x hx
  obtain ⟨j, hj, rfl⟩ := List.getElem_of_mem hx
  have := hp j hj
  rw [List.getElem?_eq_getElem hj] at this
  cases hq : l[j] with
  | none => exact absurd (by rw [hq]) this
  | some y => rfl

/-! counting by what is left to come -/
/-- how many with p are no longer to come -/
def tally (p : St → Bool) (left : Int → Bool) : Nat → List St → Nat
  | _, [] => 0
  | fr, s :: r => (if p s = true ∧ left (fr : Int) = false then 1 else 0) + tally p left (fr + 1) r
theorem tally_le (p : St → Bool) (left : Int → Bool) : ∀ (l : List St) (fr : Nat), tally p left fr l ≤ l.length
  | [], _ => Nat.le_refl _
  | s :: r, fr => by
    have := tally_le p left r (fr + 1)
    simp only [tally, List.length_cons]
    split <;> omega
theorem tally_congr (p : St → Bool) {left left' : Int → Bool} : ∀ (l : List St) (fr : Nat), (∀ i, (fr : Int) ≤ i → left i = left' i) → tally p left fr l = tally p left' fr l
  | [], _, _ => rfl
  | s :: r, fr, h => by
    simp only [tally]
    rw [h fr (Int.le_refl _), tally_congr p r (fr + 1) (fun i hi => h i (by omega))]
/-- the one at place i comes -/
theorem tally_step (p : St → Bool) (left : Int → Bool) : ∀ (l : List St) (fr i : Nat) (s : St), l[i]? = some s → left ((fr : Int) + (i : Int)) = true →
    tally p (fun z => left z && !decide (z = (fr : Int) + (i : Int))) fr l = tally p left fr l + (if p s = true then 1 else 0)
  | [], _, _, _, h, _ => by simp at h
  | x :: r, fr, 0, s, h, hl => by
    simp at h
    subst h
    simp only [tally, Int.natCast_zero, Int.add_zero] at hl ⊢
    rw [tally_congr p (left := fun z => left z && !decide (z = (fr : Int))) (left' := left) r (fr + 1) (fun i hi => by
      have : ¬ i = (fr : Int) := by omega
      simp [this])]
    rw [hl]
    simp
    omega
  | x :: r, fr, i + 1, s, h, hl => by
    simp only [List.getElem?_cons_succ] at h
    have e : (fr : Int) + ((i + 1 : Nat) : Int) = ((fr + 1 : Nat) : Int) + (i : Int) := by omega
    rw [e] at hl ⊢
    have ih := tally_step p left r (fr + 1) i s h hl
    simp only [tally]
    rw [ih]
    have hne : ¬ (fr : Int) = ((fr + 1 : Nat) : Int) + (i : Int) := by omega
    simp only [hne, decide_false, Bool.not_false, Bool.and_true]
    omega
theorem tally_end (p : St → Bool) (left : Int → Bool) : ∀ (l : List St) (fr : Nat), (∀ i, left i = false) → tally p left fr l = l.countP p
  | [], _, _ => rfl
  | s :: r, fr, h => by
    simp only [tally, List.countP_cons, h]
    rw [tally_end p left r (fr + 1) h]
    simp
    omega
theorem tally_start (p : St → Bool) (left : Int → Bool) : ∀ (l : List St) (fr : Nat), (∀ (i : Nat) (s : St), l[i]? = some s → p s = true → left ((fr : Int) + (i : Int)) = true) → tally p left fr l = 0
  | [], _, _ => rfl
  | s :: r, fr, h => by
    simp only [tally]
    rw [tally_start p left r (fr + 1) (fun i s hi hp => by
      have := h (i + 1) s (by simpa using hi) hp
      rwa [show (fr : Int) + ((i + 1 : Nat) : Int) = ((fr + 1 : Nat) : Int) + (i : Int) by omega] at this)]
    have h0 := h 0 s rfl
    rw [Int.natCast_zero, Int.add_zero] at h0
    split
    · rename_i hc
      rw [h0 hc.1] at hc
      cases hc.2
    · rfl
/-- what is freed of those that are no longer to come -/
def mix (gen : Int) (left : Int → Bool) : Nat → List St → List St
  | _, [] => []
  | fr, s :: r => (if left (fr : Int) = true then s else freedS gen s) :: mix gen left (fr + 1) r
theorem mix_length (gen : Int) (left : Int → Bool) : ∀ (l : List St) (fr : Nat), (mix gen left fr l).length = l.length
  | [], _ => rfl
  | s :: r, fr => by simp [mix, mix_length gen left r (fr + 1)]
theorem mix_at (gen : Int) (left : Int → Bool) : ∀ (l : List St) (fr i : Nat), (mix gen left fr l)[i]? = (l[i]?).map (fun s => if left ((fr : Int) + (i : Int)) = true then s else freedS gen s)
  | [], _, _ => by simp [mix]
  | s :: r, fr, 0 => by simp [mix]
  | s :: r, fr, i + 1 => by
    simp only [mix, List.getElem?_cons_succ]
    rw [mix_at gen left r (fr + 1) i, show (fr : Int) + ((i + 1 : Nat) : Int) = ((fr + 1 : Nat) : Int) + (i : Int) by omega]
theorem mix_step (gen : Int) (left : Int → Bool) (l : List St) (fr i : Nat) (s : St) (h : l[i]? = some s) :
    mix gen (fun z => left z && !decide (z = (fr : Int) + (i : Int))) fr l = (mix gen left fr l).set i (freedS gen s) := by
  apply List.ext_getElem?
  intro j
  rw [mix_at, List.getElem?_set, mix_length, mix_at]
  by_cases e : i = j
  · subst e
    obtain ⟨hl, rfl⟩ := List.getElem?_eq_some_iff.1 h
    simp [hl]
  · have hne : ¬ (fr : Int) + (j : Int) = (fr : Int) + (i : Int) := by omega
    simp [hne, e]
theorem mix_start (gen : Int) (left : Int → Bool) (l : List St) (fr : Nat) (h : ∀ (i : Nat) (x : Nat × Int), l[i]? = some (some x) → left ((fr : Int) + (i : Int)) = true) : mix gen left fr l = l := by
  apply List.ext_getElem?
  intro j
  rw [mix_at]
  cases hj : l[j]? with
  | none => rfl
  | some s =>
    cases s with
    | none => simp [freedS]
    | some x => simp [h j x hj]
theorem mix_end (gen : Int) (left : Int → Bool) (l : List St) (fr : Nat) (h : ∀ i, left i = false) : mix gen left fr l = freeM l gen := by
  apply List.ext_getElem?
  intro j
  rw [mix_at]
  simp [freeM, h]

theorem goodS_freed {gen : Int} {s : St} (h : goodS s) : goodS (freedS gen s) := by unfold freedS; split <;> trivial
theorem Ok.mix {fr : Nat} {l : List St} (h : Ok fr l) (gen : Int) (left : Int → Bool) : Ok fr (mix gen left fr l) := by
  refine ⟨by rw [mix_length]; exact h.few, fun s hs => ?_⟩
  obtain ⟨i, hi⟩ := List.getElem?_of_mem hs
  rw [mix_at] at hi
  cases hj : l[i]? with
  | none => rw [hj] at hi; cases hi
  | some x =>
    rw [hj] at hi
    have hx := h.good x (List.mem_of_getElem? hj)
    simp at hi
    subst hi
    split
    · exact hx
    · exact goodS_freed hx
theorem Ok.free {fr : Nat} {l : List St} (h : Ok fr l) (gen : Int) : Ok fr (freeM l gen) := by
  rw [← mix_end gen (fun _ => false) l fr (fun _ => rfl)]
  exact h.mix _ _
theorem Ok.take {fr : Nat} {l : List St} (h : Ok fr l) {gen : Int} (hg : I64 gen) : Ok fr (takeM l gen) := by
  unfold takeM
  split
  · refine ⟨by rw [List.length_set]; exact h.few, fun x hx => ?_⟩
    rcases List.mem_or_eq_of_mem_set hx with hx | hx
    · exact h.good x hx
    · rw [hx]; exact ⟨by decide, hg⟩
  · exact h
theorem Ok.mark {fr : Nat} {l : List St} (h : Ok fr l) (n : Int) {gen : Int} (hg : I64 gen) : Ok fr (markM fr l n gen) := by
  unfold markM
  split
  · exact h.upd n ⟨by decide, hg⟩
  · exact h
theorem Ok.hold {fr : Nat} {l : List St} (h : Ok fr l) (n : Int) : Ok fr (holdM fr l n) := by
  unfold holdM
  have hs := h.sec n
  split
  · exact h
  · rename_i hc
    refine h.upd n ?_
    cases hq : Go.Proofs.YtlmgmdnmghgkbaaGreatDoor.L5.sec fr l n with
    | none => trivial
    | some x =>
      obtain ⟨c, g⟩ := x
      rw [hq] at hs hc
      cases c with
      | zero => exact hs
      | succ c =>
        have h1 : c + 1 ≤ 5000 := hs.1
        have h2 : ¬ c + 1 = 5000 := hc
        exact ⟨by omega, hs.2⟩
theorem Ok.drop {fr : Nat} {l : List St} (h : Ok fr l) (n : Int) {gen : Int} (hg : I64 gen) : Ok fr (dropM fr l n gen) := by
  unfold dropM
  have hs := h.sec n
  refine h.upd n ?_
  unfold dropS
  split
  · split
    · trivial
    · exact ⟨by decide, hg⟩
  · rename_i hq
    rw [hq] at hs
    exact ⟨by have := hs.1; omega, hs.2⟩
  · exact hs
theorem room_le (l : List St) : room l ≤ l.length := List.countP_le_length
theorem waiting_le (l : List St) : waiting l ≤ l.length := List.countP_le_length
theorem Ok.newM {fr to : Nat} (h : fr ≤ to) (h2 : to ≤ 4096) : Ok fr (newM fr to) := by
  refine ⟨by unfold Go.Proofs.YtlmgmdnmghgkbaaGreatDoor.L5.newM; rw [List.length_replicate]; omega, fun s hs => ?_⟩
  rw [List.eq_of_mem_replicate hs]
  trivial
end Go.Proofs.YtlmgmdnmghgkbaaGreatDoor.L5

/- Small words: what is hidden from the walk; nothing but these blocks has turned. -/
namespace Go.Proofs.YtlmgmdnmghgkbaaGreatDoor.L5
open Go.ChangeShapes Go.WideShapes Go.ChangeAt Go.RowKit

theorem hide {p : Prop} (h : p) : Hid p := h
theorem unhide {p : Prop} (h : Hid p) : p := h

/-- nothing but these blocks has turned -/
structure Moves (fp : List Nat) (w w' : World) : Prop where
  os : w'.os = w.os
  tape : w'.tape = w.tape
  output : w'.output = w.output
  size : w.heap.size ≤ w'.heap.size
  block : ∀ k, k < w.heap.size → k ∉ fp → w'.heap[k]? = w.heap[k]?

theorem Moves.refl (fp : List Nat) (w : World) : Moves fp w w := ⟨rfl, rfl, rfl, Nat.le_refl _, fun _ _ _ => rfl⟩
theorem Moves.of_below {w w' : World} (fp : List Nat) (h : Below w.heap.size w w') : Moves fp w w' := ⟨h.os, h.tape, h.output, h.size, fun k hk _ => h.block k hk⟩
theorem Moves.to_below {w w' : World} (h : Moves [] w w') : Below w.heap.size w w' := ⟨h.os, h.tape, h.output, h.size, fun k hk => h.block k hk List.not_mem_nil⟩
theorem Moves.of_grown {w w' : World} {r : Option Nat} {fp : List Nat} (h : w.grownBy w' r) (hr : ∀ k, r = some k → k ∈ fp) : Moves fp w w' :=
  ⟨h.os, h.tape, h.output, h.size, fun k hk hn => h.block k hk (fun e => hn (hr k e.symm))⟩
theorem Moves.trans {fp fq : List Nat} {w w1 w2 : World} (h : Moves fp w w1) (k : Moves fq w1 w2) (hq : ∀ x ∈ fq, x ∈ fp ∨ w.heap.size ≤ x) : Moves fp w w2 :=
  ⟨k.os.trans h.os, k.tape.trans h.tape, k.output.trans h.output, Nat.le_trans h.size k.size, fun i hi hn => (k.block i (Nat.lt_of_lt_of_le hi h.size) (fun hm => by
    rcases hq i hm with h1 | h1
    · exact hn h1
    · omega)).trans (h.block i hi hn)⟩
theorem Moves.then {fp : List Nat} {w w1 w2 : World} (h : Moves fp w w1) (k : Moves fp w1 w2) : Moves fp w w2 := h.trans k (fun _ hx => .inl hx)
theorem Moves.mono {fp fq : List Nat} {w w1 : World} (h : Moves fp w w1) (hs : ∀ x ∈ fp, x ∈ fq ∨ w.heap.size ≤ x) : Moves fq w w1 := (Moves.refl fq w).trans h hs
theorem Moves.below {fp : List Nat} {B : Nat} {w0 w w' : World} (h0 : Below B w0 w) (h : Moves fp w w') (hfp : ∀ x ∈ fp, B ≤ x) (hB : B ≤ w.heap.size) : Below B w0 w' :=
  h0.trans ⟨h.os, h.tape, h.output, h.size, fun k hk => h.block k (by omega) (fun hm => by have := hfp k hm; omega)⟩
theorem Moves.set (w : World) (g j : Nat) (u : Value) {fp : List Nat} (hg : g ∈ fp) : Moves fp w (w.setCell ⟨g, j, none⟩ u) :=
  ⟨rfl, rfl, rfl, by simp, fun k _ hn => Below.heap_setCell w ⟨g, j, none⟩ u k (fun e => hn (by rw [e]; exact hg))⟩
theorem Moves.cell {fp : List Nat} {w w' : World} (h : Moves fp w w') {a : Addr} {v : Value} (hc : w.cell? a = some v) (hn : a.block ∉ fp) : w'.cell? a = some v :=
  (World.cell?_of_block (h.block a.block (World.block_lt_of_cell? w a hc) hn)).trans hc
theorem Moves.alloc (fp : List Nat) (w : World) (o : Obj) : Moves fp w (w.alloc o) := Moves.of_below fp ((Below.refl _ w).alloc (Nat.le_refl _) o)
theorem Moves.drew (fp : List Nat) (w : World) : Moves fp w w.drew := Moves.of_below fp (Below.refl _ w).drew
end Go.Proofs.YtlmgmdnmghgkbaaGreatDoor.L5

/- Maps of the program with numbers as keys, as functions: whatever their values are, told by a reading that no two values have in common. -/
namespace Go.Proofs.YtlmgmdnmghgkbaaGreatDoor
open Go.ChangeShapes Go.WideShapes Go.ChangeAt Go.RowKit Go.Maps

abbrev Rdg := Value → Option (DataW Unit × List MemPlace)
/-- no two values read alike -/
def Apart (R : Rdg) : Prop := ∀ v v' d ps ps', R v = some (d, ps) → R v' = some (d, ps') → v = v'

theorem law3 : Keyed Tryz.prog 3 := int_keyed Tryz.underlying3
theorem key3 {n : Int} (h0 : 0 ≤ n) (h1 : n < 4096) : keyOf Tryz.prog 3 (.int .i64 n) = some (.int .i64 n) := keyOf_int_mk Tryz.underlying3 (WalkArith.wf_i64 (by omega))

/-- block b is a map of at most k entries, and holds these -/
def Vm (R : Rdg) (w : World) (b k : Nat) (f : Nat → Option Value) : Prop :=
  ∃ D, w.ownsMap Tryz.prog 3 R b k D ∧ ∀ i : Nat, i < 4096 → (Maps.has D (.int .i64 (i : Int)) = (f i).isSome ∧ ∀ v, f i = some v → ∃ d ps, R v = some (d, ps) ∧ ∀ z, D.atKey (.int .i64 (i : Int)) z = d)

variable {R : Rdg} {w w' : World} {b k : Nat} {f : Nat → Option Value}

theorem Vm.lt (h : Vm R w b k f) : b < w.heap.size := by
  obtain ⟨D, h, _⟩ := h
  exact h.lt
theorem Vm.mono {k' : Nat} (h : Vm R w b k f) (hk : k ≤ k') : Vm R w b k' f := by
  obtain ⟨D, h, r⟩ := h
  exact ⟨D, h.mono hk, r⟩
theorem Vm.same (h : Vm R w b k f) (hb : w'.heap[b]? = w.heap[b]?) : Vm R w' b k f := by
  obtain ⟨D, ⟨es, clock, h1, r1⟩, r⟩ := h
  exact ⟨D, ⟨es, clock, hb.trans h1, r1⟩, r⟩
theorem Vm.kind (h : Vm R w b k f) : ∃ es clock, w.heap[b]? = some (.map es clock) := by
  obtain ⟨D, ⟨es, clock, h1, _⟩, _⟩ := h
  exact ⟨es, clock, h1⟩
theorem Vm.made (R : Rdg) (w : World) : Vm R (w.alloc (.map #[] 0)) w.heap.size 0 (fun _ => none) :=
  ⟨_, World.ownsMap_made w Tryz.prog 3 R, fun i _ => ⟨rfl, fun s h => by cases h⟩⟩

theorem Vm.look (h : Vm R w b k f) (hR : Apart R) {t e : TypeId} (ht : Tryz.prog.underlying t = some (.map 3 e)) {z : Value} (hz : (zeroValue e).run Tryz.prog w = .ok z w) {zd : DataW Unit} {zp : List MemPlace} (hzd : R z = some (zd, zp))
    {n : Int} (h0 : 0 ≤ n) (h1 : n < 4096) :
    (Instr.lookup t (.map (some b)) (.int .i64 n) false).run Tryz.prog w = .ok ((f n.toNat).getD z) w := by
  obtain ⟨D, hown, hr⟩ := h
  obtain ⟨v, ps, hrun, hv⟩ := hown.lookup law3 ht hz hzd (key3 h0 h1)
  have e : ((n.toNat : Nat) : Int) = n := Int.toNat_of_nonneg h0
  have h2 := hr n.toNat (by omega)
  rw [e] at h2
  rw [hrun]
  cases hf : f n.toNat with
  | none =>
    rw [hf] at h2
    rw [Maps.atKey_of_not_has h2.1] at hv
    rw [hR _ _ _ _ _ hv hzd]
    rfl
  | some u =>
    obtain ⟨d, qs, hu, hd⟩ := h2.2 u hf
    rw [hd] at hv
    rw [hR _ _ _ _ _ hv hu]
    rfl
/-- a key that is none of ours -/
theorem Vm.store (h : Vm R w b k f) {t e : TypeId} (ht : Tryz.prog.underlying t = some (.map 3 e)) {n : Int} (h0 : 0 ≤ n) (h1 : n < 4096) {u : Value} {d : DataW Unit} {ps : List MemPlace} (hu : R u = some (d, ps)) (hk : k < maxLen) :
    ∃ w', (Instr.mapUpdate t (.map (some b)) (.int .i64 n) u).run Tryz.prog w = .ok () w' ∧ Vm R w' b (k + 1) (fun i => if i = n.toNat then some u else f i) ∧ w.grownBy w' (some b) := by
  obtain ⟨D, hown, hr⟩ := h
  obtain ⟨w', hrun, hown', hg⟩ := hown.update law3 ht hk (key3 h0 h1) hu
  refine ⟨w', hrun, ⟨_, hown', fun i hi => ?_⟩, hg⟩
  have e : ((n.toNat : Nat) : Int) = n := Int.toNat_of_nonneg h0
  dsimp only
  by_cases hin : i = n.toNat
  · subst hin
    rw [e, if_pos rfl]
    refine ⟨by rw [Maps.has_put_same hown.isMap (law3.key (key3 h0 h1))]; rfl, fun t ht => ?_⟩
    cases ht
    exact ⟨d, ps, hu, fun z => Maps.atKey_put_same hown.isMap (law3.key (key3 h0 h1)) _ _⟩
  · rw [if_neg hin]
    have hne : Lit.int .i64 (i : Int) ≠ Lit.int .i64 n := by
      intro e'
      simp at e'
      omega
    rw [Maps.has_put_other hne]
    refine ⟨(hr i hi).1, fun t ht => ?_⟩
    obtain ⟨d', ps', h1, h2⟩ := (hr i hi).2 t ht
    exact ⟨d', ps', h1, fun z => by rw [Maps.atKey_put_other hne]; exact h2 z⟩
theorem Vm.del (h : Vm R w b k f) {t e : TypeId} (ht : Tryz.prog.underlying t = some (.map 3 e)) {n : Int} (h0 : 0 ≤ n) (h1 : n < 4096) (ty : TypeId) :
    ∃ w', (Builtin.delete_ #[t, 3] ty #[.map (some b), .int .i64 n]).run Tryz.prog w = .ok (.tuple #[]) w' ∧ Vm R w' b k (fun i => if i = n.toNat then none else f i) ∧ w.grownBy w' (some b) := by
  obtain ⟨D, hown, hr⟩ := h
  obtain ⟨w', hrun, hown', hg⟩ := hown.drop law3 ht (key3 h0 h1) ty
  refine ⟨w', hrun, ⟨_, hown', fun i hi => ?_⟩, hg.grown⟩
  have e : ((n.toNat : Nat) : Int) = n := Int.toNat_of_nonneg h0
  dsimp only
  by_cases hin : i = n.toNat
  · subst hin
    rw [e, if_pos rfl]
    exact ⟨by rw [Maps.has_del_same]; rfl, fun t ht => by cases ht⟩
  · rw [if_neg hin]
    have hne : Lit.int .i64 (i : Int) ≠ Lit.int .i64 n := by
      intro e'
      simp at e'
      omega
    rw [Maps.has_del_other hne]
    refine ⟨(hr i hi).1, fun t ht => ?_⟩
    obtain ⟨d', ps', h1, h2⟩ := (hr i hi).2 t ht
    exact ⟨d', ps', h1, fun z => by rw [Maps.atKey_del_other hne]; exact h2 z⟩

/-- how a slice in a map reads: by where it stands -/
def slR : Rdg
  | .slice none n c => some (.agg [.lit (.int .i64 (n : Int)), .lit (.int .i64 (c : Int))], [])
  | .slice (some ⟨g, i, none⟩) n c => some (.agg [.lit (.int .i64 (g : Int)), .lit (.int .i64 (i : Int)), .lit (.int .i64 (n : Int)), .lit (.int .i64 (c : Int))], [])
  | _ => none
theorem slR_apart : Apart slR := by
  intro v v' d ps ps' h h'
  unfold slR at h h'
  split at h <;> split at h' <;> simp_all
  · obtain ⟨rfl, _⟩ := h
    simp at h'
    omega
  · obtain ⟨rfl, _⟩ := h
    simp at h'
  · obtain ⟨rfl, _⟩ := h
    simp at h'
  · obtain ⟨rfl, _⟩ := h
    simp at h'
    omega
/-- how a number in a map reads -/
def inR : Rdg
  | .int .i64 n => some (.lit (.int .i64 n), [])
  | _ => none
theorem inR_apart : Apart inR := by
  intro v v' d ps ps' h h'
  unfold inR at h h'
  split at h <;> split at h' <;> simp_all
  obtain ⟨rfl, _⟩ := h
  simp at h'
  omega
theorem zero39 (w : World) : (zeroValue 39).run Tryz.prog w = .ok (.slice none 0 0) w := by kernel_rfl
theorem zero3 (w : World) : (zeroValue 3).run Tryz.prog w = .ok (.int .i64 0) w := by kernel_rfl
end Go.Proofs.YtlmgmdnmghgkbaaGreatDoor

/- Plain mathematics of a disk: what the document says, as functions; nothing of any program. -/
namespace Go.Proofs.YtlmgmdnmghgkbaaGreatDoor.L3

/-- a disk as the document has it: what was flushed, what is open, how many calls the power has (below 0: it stays), is it gone? -/
structure Dk where
  old : List ByteArray
  op : List (Nat × ByteArray)
  left : Int
  gone : Bool

/-- the last open write that names this sector -/
def lastW (op : List (Nat × ByteArray)) (i : Nat) : Option ByteArray := op.foldl (fun acc p => if p.1 = i then some p.2 else acc) none

theorem lastW_snoc (op : List (Nat × ByteArray)) (p : Nat × ByteArray) (i : Nat) : lastW (op ++ [p]) i = if p.1 = i then some p.2 else lastW op i := by
  unfold lastW
  rw [List.foldl_append]
  rfl
theorem lastW_nil (i : Nat) : lastW [] i = none := rfl

def flushL (old : List ByteArray) (op : List (Nat × ByteArray)) : List ByteArray := op.foldl (fun l p => l.set p.1 p.2) old
theorem flushL_snoc (old : List ByteArray) (op : List (Nat × ByteArray)) (p : Nat × ByteArray) : flushL old (op ++ [p]) = (flushL old op).set p.1 p.2 := by
  unfold flushL
  rw [List.foldl_append]
  rfl

/-- a list's property from one that grows at its end -/
theorem snoc_ind {α : Type} {p : List α → Prop} (h0 : p []) (h1 : ∀ l x, p l → p (l ++ [x])) : ∀ l, p l := by
  intro l
  have : ∀ n, ∀ l : List α, l.length = n → p l := by
    intro n
    induction n with
    | zero => intro l hl; rw [List.length_eq_zero_iff.1 hl]; exact h0
    | succ n ih =>
      intro l hl
      have hne : l ≠ [] := by intro e; rw [e] at hl; simp at hl
      rw [← List.dropLast_concat_getLast hne]
      exact h1 _ _ (ih _ (by rw [List.length_dropLast]; omega))
  exact this _ l rfl

theorem flushL_length (old : List ByteArray) (op : List (Nat × ByteArray)) : (flushL old op).length = old.length := by
  induction op using snoc_ind with
  | h0 => rfl
  | h1 l x ih => rw [flushL_snoc, List.length_set, ih]

theorem flushL_get (old : List ByteArray) (op : List (Nat × ByteArray)) (i : Nat) (hi : i < old.length) (z : ByteArray) : (flushL old op).getD i z = (lastW op i).getD (old.getD i z) := by
  induction op using snoc_ind with
  | h0 => rfl
  | h1 l x ih =>
    rw [flushL_snoc, lastW_snoc, List.getD_eq_getElem?_getD, List.getElem?_set]
    split
    · rename_i h
      rw [if_pos (by rw [flushL_length]; omega)]
      simp
    · rw [← List.getD_eq_getElem?_getD, ih]

/-- a sector's bytes where a write is torn: the first k are the write's -/
def tearK (old data : ByteArray) (k : Nat) : ByteArray := data.extract 0 k ++ old.extract k old.size
/-- what a write leaves, by its fate -/
def tear (old data : ByteArray) (f : Int) : ByteArray := if f < 1 then old else if f = 1 then data else tearK old data (f.toNat % 1024)

def crashL (old : List ByteArray) (l : List ((Nat × ByteArray) × Int)) : List ByteArray := l.foldl (fun s p => s.set p.1.1 (tear (s.getD p.1.1 ByteArray.empty) p.1.2 p.2)) old
theorem crashL_snoc (old : List ByteArray) (l : List ((Nat × ByteArray) × Int)) (p : (Nat × ByteArray) × Int) :
    crashL old (l ++ [p]) = (crashL old l).set p.1.1 (tear ((crashL old l).getD p.1.1 ByteArray.empty) p.1.2 p.2) := by
  unfold crashL
  rw [List.foldl_append]
  rfl
theorem crashL_length (old : List ByteArray) (l : List ((Nat × ByteArray) × Int)) : (crashL old l).length = old.length := by
  induction l using snoc_ind with
  | h0 => rfl
  | h1 l x ih => rw [crashL_snoc, List.length_set, ih]

theorem set_same (l : List ByteArray) (i : Nat) (z : ByteArray) : l.set i (l.getD i z) = l := by
  apply List.ext_getElem?
  intro j
  rw [List.getElem?_set]
  split
  · rename_i h
    subst h
    split
    · rename_i h
      rw [List.getD_eq_getElem?_getD, List.getElem?_eq_getElem h]
      rfl
    · rename_i h
      rw [List.getElem?_eq_none (by omega)]
  · rfl

/-- the answers -/
def readM (m : Dk) (n : Int) : ByteArray × Int :=
  if m.gone = true then (ByteArray.empty, 30) else if n < 0 ∨ (m.old.length : Int) ≤ n then (ByteArray.empty, 31) else ((lastW m.op n.toNat).getD (m.old.getD n.toNat ByteArray.empty), 0)
def spent (l : Int) : Int := if 0 < l then l - 1 else l
def writeE (m : Dk) (n : Int) (data : ByteArray) : Int :=
  if m.gone = true then 30 else if m.left = 0 then 30 else if n < 0 ∨ (m.old.length : Int) ≤ n then 31 else if data.size ≠ 1024 then 32 else 0
def writeM (m : Dk) (n : Int) (data : ByteArray) : Dk :=
  if m.gone = true then m else if m.left = 0 then { m with gone := true } else if n < 0 ∨ (m.old.length : Int) ≤ n then m else if data.size ≠ 1024 then m
  else { m with left := spent m.left, op := m.op ++ [(n.toNat, data)] }
def flushE (m : Dk) : Int := if m.gone = true then 30 else if m.left = 0 then 30 else 0
def flushM (m : Dk) : Dk :=
  if m.gone = true then m else if m.left = 0 then { m with gone := true } else { m with left := spent m.left, old := flushL m.old m.op, op := [] }
def powerM (m : Dk) (c : Int) : Dk := if m.gone = true then m else { m with left := max c (-1) }
def crashM (m : Dk) (fs : List Int) : Dk := { old := crashL m.old (m.op.zip fs), op := [], left := -1, gone := false }

/-- what holds of every disk: sectors have 1024 bytes, open writes name sectors and have as many -/
structure Ok (m : Dk) : Prop where
  old : ∀ i, i < m.old.length → (m.old.getD i ByteArray.empty).size = 1024
  op : ∀ p ∈ m.op, p.1 < m.old.length ∧ p.2.size = 1024
  left : -1 ≤ m.left ∧ m.left ≤ 9223372036854775807
  many : m.old.length ≤ 4096

theorem spent_in {l : Int} (h : -1 ≤ l ∧ l ≤ 9223372036854775807) : -1 ≤ spent l ∧ spent l ≤ 9223372036854775807 := by
  unfold spent
  split <;> omega

theorem lastW_mem (op : List (Nat × ByteArray)) (i : Nat) (s : ByteArray) : lastW op i = some s → (i, s) ∈ op := by
  induction op using snoc_ind with
  | h0 => intro h; cases h
  | h1 l x ih =>
    intro h
    rw [lastW_snoc] at h
    split at h
    · rename_i e
      cases h
      subst e
      exact List.mem_append_right _ (by simp)
    · exact List.mem_append_left _ (ih h)

theorem ok_write {m : Dk} (h : Ok m) (n : Int) (data : ByteArray) : Ok (writeM m n data) := by
  unfold writeM
  split
  · exact h
  · split
    · exact ⟨h.old, h.op, h.left, h.many⟩
    · split
      · exact h
      · split
        · exact h
        · refine ⟨h.old, ?_, spent_in h.left, h.many⟩
          intro p hp
          rcases List.mem_append.1 hp with hp | hp
          · exact h.op p hp
          · rename_i h1 h2
            simp at hp
            subst hp
            exact ⟨by show n.toNat < m.old.length; omega, by show data.size = 1024; omega⟩

theorem ok_flush {m : Dk} (h : Ok m) : Ok (flushM m) := by
  unfold flushM
  split
  · exact h
  · split
    · exact ⟨h.old, h.op, h.left, h.many⟩
    · refine ⟨?_, (fun p hp => absurd hp List.not_mem_nil), spent_in h.left, ?_⟩
      · intro i hi
        rw [flushL_length] at hi
        show ((flushL m.old m.op).getD i ByteArray.empty).size = 1024
        rw [flushL_get _ _ _ hi]
        cases hl : lastW m.op i with
        | none => exact h.old i hi
        | some s => exact (h.op _ (lastW_mem _ _ _ hl)).2
      · show (flushL m.old m.op).length ≤ 4096
        rw [flushL_length]
        exact h.many

theorem ok_power {m : Dk} (h : Ok m) (c : Int) (hc : c ≤ 9223372036854775807) : Ok (powerM m c) := by
  unfold powerM
  split
  · exact h
  · refine ⟨h.old, h.op, ?_, h.many⟩
    show -1 ≤ max c (-1) ∧ max c (-1) ≤ 9223372036854775807
    omega

theorem tear_size {old data : ByteArray} (f : Int) (h1 : old.size = 1024) (h2 : data.size = 1024) : (tear old data f).size = 1024 := by
  unfold tear
  split
  · exact h1
  · split
    · exact h2
    · unfold tearK
      rw [ByteArray.size_append, ByteArray.size_extract, ByteArray.size_extract]
      omega

theorem crashL_size {m : Dk} (h : Ok m) (fs : List Int) (j : Nat) : ∀ i, i < m.old.length → ((crashL m.old ((m.op.zip fs).take j)).getD i ByteArray.empty).size = 1024 := by
  have key : ∀ l : List ((Nat × ByteArray) × Int), (∀ p ∈ l, p.1 ∈ m.op) → ∀ i, i < m.old.length → ((crashL m.old l).getD i ByteArray.empty).size = 1024 := by
    intro l
    induction l using snoc_ind with
    | h0 => intro _; exact h.old
    | h1 l x ih =>
      intro hl i hi
      have ih' := ih (fun p hp => hl p (List.mem_append_left _ hp))
      have hx := h.op _ (hl x (List.mem_append_right _ (by simp)))
      rw [crashL_snoc, List.getD_eq_getElem?_getD, List.getElem?_set]
      split
      · rename_i e
        subst e
        rw [if_pos (by rw [crashL_length]; exact hx.1)]
        exact tear_size _ (ih' _ hx.1) hx.2
      · rw [← List.getD_eq_getElem?_getD]
        exact ih' i hi
  refine key _ (fun p hp => ?_)
  have := List.mem_of_mem_take hp
  exact (List.of_mem_zip (a := p.1) (b := p.2) this).1

theorem ok_crash {m : Dk} (h : Ok m) (fs : List Int) : Ok (crashM m fs) := by
  refine ⟨?_, (fun p hp => absurd hp List.not_mem_nil), (by show (-1 : Int) ≤ -1 ∧ (-1 : Int) ≤ 9223372036854775807; omega), ?_⟩
  · intro i hi
    have hi' : i < m.old.length := by rw [show (crashM m fs).old = crashL m.old (m.op.zip fs) from rfl, crashL_length] at hi; exact hi
    have := crashL_size h fs (m.op.zip fs).length i hi'
    rw [List.take_length] at this
    exact this
  · show (crashL m.old (m.op.zip fs)).length ≤ 4096
    rw [crashL_length]
    exact h.many

/-- one more of the writes that a crash goes through -/
theorem crash_take (old : List ByteArray) (op : List (Nat × ByteArray)) (fs : List Int) (j : Nat) (h1 : j < op.length) (h2 : j < fs.length) :
    crashL old ((op.zip fs).take (j + 1)) = (crashL old ((op.zip fs).take j)).set op[j].1 (tear ((crashL old ((op.zip fs).take j)).getD op[j].1 ByteArray.empty) op[j].2 fs[j]) := by
  have hl : j < (op.zip fs).length := by rw [List.length_zip]; omega
  rw [List.take_add_one, List.getElem?_eq_getElem hl]
  show crashL old ((op.zip fs).take j ++ [(op.zip fs)[j]]) = _
  rw [crashL_snoc, List.getElem_zip]
end Go.Proofs.YtlmgmdnmghgkbaaGreatDoor.L3

/- The plain mathematics of the check of bytes: a shift of a register, whole bytes, half bytes by a table, a message as one number. No program is spoken of here. -/
namespace Go.Proofs.YtlmgmdnmghgkbaaGreatDoor.L4.Crc

/-- one shift down: the bit that goes out puts the constant on the register -/
def sh (x : Nat) : Nat := if x % 2 = 1 then (x / 2) ^^^ 2197175160 else x / 2
def shn : Nat → Nat → Nat
  | 0, x => x
  | n + 1, x => shn n (sh x)

theorem xac (a b c d : Nat) : (a ^^^ b) ^^^ (c ^^^ d) = (a ^^^ c) ^^^ (b ^^^ d) := by
  rw [Nat.xor_assoc, Nat.xor_assoc, ← Nat.xor_assoc b c d, Nat.xor_comm b c, Nat.xor_assoc c b d]

theorem sh_xor (x y : Nat) : sh (x ^^^ y) = sh x ^^^ sh y := by
  have hd : (x ^^^ y) / 2 = x / 2 ^^^ y / 2 := Nat.xor_div_two
  have hm : (x ^^^ y) % 2 = (x + y) % 2 := by
    have h : (x ^^^ y) % 2 = (x % 2) ^^^ (y % 2) := Nat.xor_mod_two_pow (n := 1)
    rw [h]
    rcases Nat.mod_two_eq_zero_or_one x with h1 | h1 <;> rcases Nat.mod_two_eq_zero_or_one y with h2 | h2 <;> rw [h1, h2] <;> simp <;> omega
  unfold sh
  rw [hd, hm]
  by_cases h1 : x % 2 = 1 <;> by_cases h2 : y % 2 = 1
  · rw [if_neg (by omega), if_pos h1, if_pos h2, xac, Nat.xor_self, Nat.xor_zero]
  · rw [if_pos (by omega), if_pos h1, if_neg h2, Nat.xor_assoc, Nat.xor_comm (y / 2), ← Nat.xor_assoc]
  · rw [if_pos (by omega), if_neg h1, if_pos h2, Nat.xor_assoc]
  · rw [if_neg (by omega), if_neg h1, if_neg h2]

theorem shn_xor (n x y : Nat) : shn n (x ^^^ y) = shn n x ^^^ shn n y := by
  induction n generalizing x y with
  | zero => rfl
  | succ n ih => show shn n (sh (x ^^^ y)) = _; rw [sh_xor, ih]; rfl

theorem shn_add (m n x : Nat) : shn (m + n) x = shn n (shn m x) := by
  induction m generalizing x with
  | zero => simp [shn]
  | succ m ih =>
    have e : m + 1 + n = (m + n) + 1 := by omega
    rw [e]
    show shn (m + n) (sh x) = shn n (shn m (sh x))
    rw [ih]

theorem sh_two (y : Nat) : sh (y * 2) = y := by
  unfold sh
  rw [if_neg (by omega)]
  omega

theorem shn_pow (n y : Nat) : shn n (y * 2 ^ n) = y := by
  induction n generalizing y with
  | zero => simp [shn]
  | succ n ih =>
    show shn n (sh (y * 2 ^ (n + 1))) = y
    have e : y * 2 ^ (n + 1) = (y * 2 ^ n) * 2 := by rw [Nat.pow_succ, Nat.mul_assoc]
    rw [e, sh_two, ih]

theorem sh_lt {x : Nat} (h : x < 4294967296) : sh x < 4294967296 := by
  unfold sh
  split
  · have : x / 2 ^^^ 2197175160 < 2 ^ 32 := Nat.xor_lt_two_pow (by omega) (by decide)
    simpa using this
  · omega

theorem sh_ne {x : Nat} (h : x < 4294967296) (h0 : x ≠ 0) : sh x ≠ 0 := by
  unfold sh
  split
  · intro he
    have : x / 2 = 2197175160 := by
      have h2 := congrArg (· ^^^ 2197175160) he
      simpa [Nat.xor_assoc, Nat.xor_self] using h2
    omega
  · omega

theorem shn_lt (n : Nat) {x : Nat} (h : x < 4294967296) : shn n x < 4294967296 := by
  induction n generalizing x with
  | zero => exact h
  | succ n ih => exact ih (sh_lt h)

theorem shn_ne (n : Nat) {x : Nat} (h : x < 4294967296) (h0 : x ≠ 0) : shn n x ≠ 0 := by
  induction n generalizing x with
  | zero => exact h0
  | succ n ih => exact ih (sh_lt h) (sh_ne h h0)

/-- a whole byte -/
def bstep (s b : Nat) : Nat := shn 8 (s ^^^ b)
def run (s : Nat) (l : List Nat) : Nat := l.foldl bstep s
/-- the bytes as one number, the first byte lowest -/
def msg : List Nat → Nat
  | [] => 0
  | b :: l => b ^^^ (msg l * 256)

theorem run_nil (s : Nat) : run s [] = s := rfl
theorem run_cons (s b : Nat) (l : List Nat) : run s (b :: l) = run (bstep s b) l := rfl
theorem run_append (s : Nat) (l r : List Nat) : run s (l ++ r) = run (run s l) r := by simp [run, List.foldl_append]
theorem run_snoc (s b : Nat) (l : List Nat) : run s (l ++ [b]) = bstep (run s l) b := by rw [run_append]; rfl

theorem bstep_lt {s b : Nat} (hs : s < 4294967296) (hb : b < 256) : bstep s b < 4294967296 := by
  have : s ^^^ b < 2 ^ 32 := Nat.xor_lt_two_pow (by omega) (by omega)
  exact shn_lt 8 (by simpa using this)
theorem run_lt {s : Nat} (l : List Nat) (hs : s < 4294967296) (hl : ∀ b ∈ l, b < 256) : run s l < 4294967296 := by
  induction l generalizing s with
  | nil => exact hs
  | cons b l ih => exact ih (bstep_lt hs (hl b (by simp))) (fun x hx => hl x (by simp [hx]))

theorem run_eq (s : Nat) (l : List Nat) : run s l = shn (8 * l.length) (s ^^^ msg l) := by
  induction l generalizing s with
  | nil => simp [run, msg, shn]
  | cons b l ih =>
    rw [run_cons, ih]
    have e : 8 * (b :: l).length = 8 + 8 * l.length := by simp; omega
    rw [e, shn_add]
    congr 1
    show bstep s b ^^^ msg l = shn 8 (s ^^^ (b ^^^ msg l * 256))
    rw [← Nat.xor_assoc, shn_xor 8 (s ^^^ b), show (256 : Nat) = 2 ^ 8 from rfl, shn_pow]
    rfl

/-- half a byte at a time, by the table -/
def tabN : List Nat := [0, 274646895, 549293790, 820201905, 1098587580, 1361435347, 1640403810, 1905808397, 2197175160, 2460548119, 2722870694, 2987750089, 3280807620, 3553878443, 3811616794, 4084100981]
def tab (i : Nat) : Nat := tabN.getD i 0
theorem tab_lt (i : Nat) : tab i < 4294967296 := by
  by_cases h : i < 16
  · have : ∀ j : Fin 16, tab j.val < 4294967296 := by decide
    exact this ⟨i, h⟩
  · have : tab i = 0 := by
      unfold tab
      rw [List.getD_eq_getElem?_getD, List.getElem?_eq_none (by simp [tabN]; omega)]
      rfl
    omega
theorem tab_sh : ∀ j : Fin 16, shn 4 j.val = tab j.val := by decide

theorem split_low (x n : Nat) : x = (x / 2 ^ n * 2 ^ n) ^^^ (x % 2 ^ n) := by
  apply Nat.eq_of_testBit_eq
  intro i
  rw [Nat.testBit_xor, Nat.testBit_mod_two_pow, Nat.testBit_mul_two_pow, Nat.testBit_div_two_pow]
  by_cases h : i < n
  · simp [h, Nat.not_le.2 h]
  · have h' : n ≤ i := Nat.le_of_not_lt h
    simp [h, h', Nat.sub_add_cancel h']

def half (x : Nat) : Nat := x / 16 ^^^ tab (x % 16)
theorem half_eq (x : Nat) : half x = shn 4 x := by
  have h := split_low x 4
  have e : shn 4 x = shn 4 ((x / 2 ^ 4 * 2 ^ 4) ^^^ (x % 2 ^ 4)) := by rw [← h]
  rw [e, shn_xor, shn_pow]
  have := tab_sh ⟨x % 16, by omega⟩
  show x / 16 ^^^ tab (x % 16) = x / 16 ^^^ shn 4 (x % 16)
  rw [this]
theorem halves_eq (s b : Nat) : half (half (s ^^^ b)) = bstep s b := by
  rw [half_eq, half_eq, ← shn_add]
  rfl
theorem half_lt {x : Nat} (h : x < 4294967296) : half x < 4294967296 := by rw [half_eq]; exact shn_lt 4 h

/-- the sum, and the sum with more behind -/
def more (c : Nat) (l : List Nat) : Nat := run (c ^^^ 4294967295) l ^^^ 4294967295
def sum (l : List Nat) : Nat := more 0 l
theorem not_lt {c : Nat} (h : c < 4294967296) : c ^^^ 4294967295 < 4294967296 := by
  have : c ^^^ 4294967295 < 2 ^ 32 := Nat.xor_lt_two_pow (by omega) (by decide)
  simpa using this
theorem not_not (c : Nat) : (c ^^^ 4294967295) ^^^ 4294967295 = c := by rw [Nat.xor_assoc, Nat.xor_self, Nat.xor_zero]
theorem more_lt {c : Nat} (l : List Nat) (h : c < 4294967296) (hl : ∀ b ∈ l, b < 256) : more c l < 4294967296 := not_lt (run_lt l (not_lt h) hl)
theorem more_nil (c : Nat) : more c [] = c := not_not c
theorem more_append (c : Nat) (l r : List Nat) : more c (l ++ r) = more (more c l) r := by
  unfold more
  rw [run_append, not_not]
theorem sum_lt (l : List Nat) (hl : ∀ b ∈ l, b < 256) : sum l < 4294967296 := more_lt l (by decide) hl
theorem sum_append (l r : List Nat) : sum (l ++ r) = more (sum l) r := more_append 0 l r

/-- 123456789 -/
theorem sum_known : sum [49, 50, 51, 52, 53, 54, 55, 56, 57] = 3808858755 := by decide +kernel

/-- a byte with bits put on it, exclusively -/
theorem msg_set (l : List Nat) (j x : Nat) (h : j < l.length) : msg (l.set j (l[j] ^^^ x)) = msg l ^^^ (x * 2 ^ (8 * j)) := by
  induction l generalizing j with
  | nil => exact absurd h (by simp)
  | cons b l ih =>
    cases j with
    | zero =>
      show (b ^^^ x) ^^^ (msg l * 256) = (b ^^^ (msg l * 256)) ^^^ (x * 2 ^ 0)
      rw [Nat.pow_zero, Nat.mul_one, Nat.xor_assoc, Nat.xor_comm x, ← Nat.xor_assoc]
    | succ j =>
      have hj : j < l.length := by simpa using h
      have := ih j hj
      show b ^^^ (msg (l.set j (l[j] ^^^ x)) * 256) = (b ^^^ (msg l * 256)) ^^^ (x * 2 ^ (8 * (j + 1)))
      rw [this, Nat.xor_assoc]
      have e : x * 2 ^ (8 * (j + 1)) = (x * 2 ^ (8 * j)) * 256 := by rw [Nat.mul_succ, Nat.pow_add, Nat.mul_assoc]
      rw [e]
      congr 1
      rw [show (256 : Nat) = 2 ^ 8 from rfl]
      apply Nat.eq_of_testBit_eq
      intro i
      simp only [Nat.testBit_xor, Nat.testBit_mul_two_pow]
      by_cases h : 8 ≤ i <;> simp [h]

theorem pow_xor (a b n : Nat) : (a ^^^ b) * 2 ^ n = (a * 2 ^ n) ^^^ (b * 2 ^ n) := by
  apply Nat.eq_of_testBit_eq
  intro i
  simp only [Nat.testBit_xor, Nat.testBit_mul_two_pow]
  by_cases h : n ≤ i <;> simp [h]

/-- TURNED BITS: another sum -/
theorem sum_turned {l l' : List Nat} (hlen : l'.length = l.length) (m at' : Nat) (hm : m < 4294967296) (h0 : m ≠ 0) (hat : at' ≤ 8 * l.length)
    (h : msg l' = msg l ^^^ (m * 2 ^ at')) : sum l' ≠ sum l := by
  intro he
  have h1 : run 4294967295 l' = run 4294967295 l := by
    have := congrArg (· ^^^ 4294967295) he
    simpa [sum, more, not_not] using this
  rw [run_eq, run_eq, hlen, h, ← Nat.xor_assoc, shn_xor] at h1
  have h2 : shn (8 * l.length) (m * 2 ^ at') = 0 := by
    have := congrArg (shn (8 * l.length) (4294967295 ^^^ msg l) ^^^ ·) h1
    simpa [← Nat.xor_assoc, Nat.xor_self] using this
  have e : 8 * l.length = at' + (8 * l.length - at') := by omega
  rw [e, shn_add, shn_pow] at h2
  exact shn_ne _ hm h0 h2

/-- three texts -/
theorem msg_three : ∀ (a b c d : List Nat), b.length = a.length → c.length = a.length → d.length = a.length → (∀ i, i < a.length → d.getD i 0 = a.getD i 0 ^^^ b.getD i 0 ^^^ c.getD i 0) → msg d = msg a ^^^ msg b ^^^ msg c
  | [], [], [], [], _, _, _, _ => rfl
  | x :: a, y :: b, z :: c, u :: d, hb, hc, hd, h => by
    have ih := msg_three a b c d (by simpa using hb) (by simpa using hc) (by simpa using hd) (fun i hi => by simpa using h (i + 1) (by simpa using hi))
    have h0 : u = x ^^^ y ^^^ z := by simpa using h 0 (by simp)
    show u ^^^ (msg d * 256) = (x ^^^ (msg a * 256)) ^^^ (y ^^^ (msg b * 256)) ^^^ (z ^^^ (msg c * 256))
    rw [ih, h0, show (256 : Nat) = 2 ^ 8 from rfl, pow_xor, pow_xor, xac (x ^^^ y), xac x]
theorem sum_three (a b c d : List Nat) (hb : b.length = a.length) (hc : c.length = a.length) (hd : d.length = a.length) (h : ∀ i, i < a.length → d.getD i 0 = a.getD i 0 ^^^ b.getD i 0 ^^^ c.getD i 0) :
    sum d = sum a ^^^ sum b ^^^ sum c := by
  have hm := msg_three a b c d hb hc hd h
  have e : ∀ l : List Nat, l.length = a.length → sum l = shn (8 * a.length) (4294967295) ^^^ shn (8 * a.length) (msg l) ^^^ 4294967295 := fun l hl => by
    unfold sum more
    rw [run_eq, hl, shn_xor]
    rfl
  rw [e d hd, e a rfl, e b hb, e c hc, hm, shn_xor, shn_xor]
  generalize shn (8 * a.length) 4294967295 = P
  generalize shn (8 * a.length) (msg a) = A
  generalize shn (8 * a.length) (msg b) = B
  generalize shn (8 * a.length) (msg c) = C
  apply Nat.eq_of_testBit_eq
  intro i
  simp only [Nat.testBit_xor]
  cases P.testBit i <;> cases A.testBit i <;> cases B.testBit i <;> cases C.testBit i <;> cases (4294967295 : Nat).testBit i <;> rfl
end Go.Proofs.YtlmgmdnmghgkbaaGreatDoor.L4.Crc

/- The plain mathematics of fixed numbers: lists of bytes, and how they are read. -/
namespace Go.Proofs.YtlmgmdnmghgkbaaGreatDoor.L4.Pk

/-- a fixed number's bytes, the highest first -/
def fixL (n : Nat) : List Nat := [n / 2 ^ 56 % 256, n / 2 ^ 48 % 256, n / 2 ^ 40 % 256, n / 2 ^ 32 % 256, n / 2 ^ 24 % 256, n / 2 ^ 16 % 256, n / 2 ^ 8 % 256, n % 256]
/-- the number of bytes, the highest first -/
def fixN (l : List Nat) : Nat := l.foldl (fun a b => a * 256 + b) 0
theorem fixL_length (n : Nat) : (fixL n).length = 8 := rfl
theorem fixL_lt (n : Nat) : ∀ b ∈ fixL n, b < 256 := by
  intro b hb
  simp only [fixL, List.mem_cons, List.not_mem_nil, or_false] at hb
  rcases hb with rfl | rfl | rfl | rfl | rfl | rfl | rfl | rfl <;> exact Nat.mod_lt _ (by decide)
theorem fixN_fixL (n : Nat) (h : n < 18446744073709551616) : fixN (fixL n) = n := by
  simp only [fixN, fixL, List.foldl_cons, List.foldl_nil]
  omega
theorem fixN_snoc (l : List Nat) (b : Nat) : fixN (l ++ [b]) = fixN l * 256 + b := by simp [fixN]
theorem fold_lt (l : List Nat) (a : Nat) (hl : ∀ b ∈ l, b < 256) : l.foldl (fun a b => a * 256 + b) a < (a + 1) * 256 ^ l.length := by
  induction l generalizing a with
  | nil => simp
  | cons b t ih =>
    rw [List.foldl_cons, List.length_cons, Nat.pow_succ]
    have h1 := ih (a * 256 + b) (fun c hc => hl c (List.mem_cons_of_mem _ hc))
    have h2 := hl b List.mem_cons_self
    have h3 : (a * 256 + b + 1) * 256 ^ t.length ≤ (a + 1) * 256 * 256 ^ t.length := Nat.mul_le_mul_right _ (by omega)
    have h4 : (a + 1) * (256 ^ t.length * 256) = (a + 1) * 256 * 256 ^ t.length := by rw [Nat.mul_comm (256 ^ t.length) 256, Nat.mul_assoc]
    omega
theorem fixN_lt (l : List Nat) (hl : ∀ b ∈ l, b < 256) : fixN l < 256 ^ l.length := by
  have := fold_lt l 0 hl
  simpa [fixN] using this
theorem fixL_fixN (l : List Nat) (h : l.length = 8) (hl : ∀ b ∈ l, b < 256) : fixL (fixN l) = l := by
  match l, h with
  | [a, b, c, d, e, f, g, i], _ =>
    simp only [List.mem_cons, List.not_mem_nil, or_false, forall_eq_or_imp, forall_eq] at hl
    obtain ⟨ha, hb, hc, hd, he, hf, hg, hi⟩ := hl
    simp only [fixN, fixL, List.foldl_cons, List.foldl_nil, List.cons.injEq, and_true]
    omega

end Go.Proofs.YtlmgmdnmghgkbaaGreatDoor.L4.Pk

/- Bytes of one's own: a slice that a call makes and appends to, and the text that is made of it. -/
namespace Go.Proofs.YtlmgmdnmghgkbaaGreatDoor.L4
open Go.ChangeShapes Go.WideShapes Go.ChangeAt Go.RowKit

theorem hide {p : Prop} (h : p) : Hid p := h
theorem unhide {p : Prop} (h : Hid p) : p := h
theorem ret_int {k : IntKind} {a b : Int} (h : a = b) : Ending.returned (.int k a) = .returned (.int k b) := by rw [h]

/-- a text's bytes as numbers -/
def bn (s : ByteArray) : List Nat := s.data.toList.map UInt8.toNat
theorem bn_length (s : ByteArray) : (bn s).length = s.size := by
  unfold bn
  rw [List.length_map, Array.length_toList]
  rfl
theorem bn_lt (s : ByteArray) : ∀ b ∈ bn s, b < 256 := by
  intro b hb
  obtain ⟨u, _, rfl⟩ := List.mem_map.1 hb
  exact u.toNat_lt
theorem bn_append (s t : ByteArray) : bn (s ++ t) = bn s ++ bn t := by
  unfold bn
  rw [ByteArray.data_append, Array.toList_append, List.map_append]
theorem bn_inj {s t : ByteArray} (h : bn s = bn t) : s = t := by
  unfold bn at h
  apply ByteArray.ext
  have := (List.map_inj_right (f := UInt8.toNat) (fun a b e => UInt8.toNat_inj.1 e)).1 h
  exact Array.toList_inj.1 this
theorem bn_at (s : ByteArray) (k : Nat) (h : k < s.size) : (bn s)[k]? = some s[k].toNat := by
  simp only [bn, List.getElem?_map]
  rw [List.getElem?_eq_getElem (by rw [Array.length_toList]; exact h)]
  rfl

/-- the text of these bytes -/
def strOf (l : List Nat) : ByteArray := strOfNums (l.map fun n : Nat => (n : Int))
theorem bn_strOf (l : List Nat) (h : ∀ b ∈ l, b < 256) : bn (strOf l) = l := by
  unfold bn strOf
  rw [strOfNums_data, List.map_map, List.map_map]
  refine (List.map_congr_left (g := id) (fun b hb => ?_)).trans (List.map_id l)
  have := h b hb
  simp [Function.comp, Nat.mod_eq_of_lt this]
theorem strOf_size (l : List Nat) : (strOf l).size = l.length := by unfold strOf; rw [strOfNums_size, List.length_map]
theorem strOf_bn (s : ByteArray) : strOf (bn s) = s := bn_inj (bn_strOf _ (bn_lt s))

theorem info5 : (Tryz.prog.info? 5).map (fun i => (i.zero, i.size, i.bytes)) = some (some (.int .u8 0), 1, 1) := by kernel_rfl

def cells (l : List Nat) : List Value := l.map fun n : Nat => Value.int .u8 (n : Int)
theorem cells_length (l : List Nat) : (cells l).length = l.length := by simp [cells]
theorem cells_append (l r : List Nat) : cells (l ++ r) = cells l ++ cells r := by simp [cells]

/-- bytes of one's own: a slice in new memory, which nobody else has -/
def Own (base : Nat) (w : World) (v : Value) (l : List Nat) : Prop := w.ownsRow base 5 1 v l.length (cells l)
theorem below_own {B : Nat} {w wr w1 : World} {v : Value} {l : List Nat} {o : Obj} (hB : B ≤ wr.heap.size) (hb : Below B w wr) (hown : Own B wr v l)
    (hg : (wr.alloc o).grownBy w1 v.ownBlock) : Below B w w1 := by
  refine (hb.alloc hB o).grown hg (by simp; omega) ?_
  intro k hk
  exact (World.ownsRow.lt hown k hk).1

/-- append of one byte to what is one's own, as the walk meets it: the byte stands in a new block -/
theorem app_one {ops : Array Oper} {rest : List Oper} {o : Oper} {a : Act} {Q : Exit → Act → World → Prop} {B : Nat} {w wr : World} {v : Value} {l : List Nat} {b : Nat}
    (hwant : Region.wanted o (yielded ops a.tmps) = true) (s x : Operand) (ho : o.op = .call { callee := .builtin .append, args := #[s, x], argTypes := #[68, 68] })
    (hs : a.eval s = v) (hx : a.eval x = .slice (some ⟨wr.heap.size, 0, none⟩) 1 1) (hB : B ≤ wr.heap.size) (hbel : Below B w wr) (hown : Own B wr v l) (hlen : l.length ≤ 1000)
    (h : ∀ a' cap' w', Own B w' (.slice a' (l.length + 1) cap') (l ++ [b]) → Below B w w' → wpList Tryz.prog ops Q rest (a.put o.dst (.slice a' (l.length + 1) cap')) w') :
    wpList Tryz.prog ops Q (o :: rest) a (wr.alloc (.cells #[.int .u8 (b : Int)] 5)) := by
  obtain ⟨i0, hi, hz0, hz1, hz2⟩ := info_parts info5
  obtain ⟨v', w', hr, ho', hg, _⟩ := run_append_own (P := Tryz.prog) (wr.alloc (.cells #[.int .u8 (b : Int)] 5)) B 68 o.type 5 i0 (.int .u8 0) 1 1 Tryz.underlying68 hi hz0 hz1 hz2 rfl (by decide) v l.length (cells l) (World.ownsRow.alloc hown _) ⟨wr.heap.size, 0, none⟩ 1 1 [.int .u8 (b : Int)] rfl
    (fun j u hj => by
      match j, hj with
      | 0, hj => simp at hj; subst hj; simp [Addr.add])
    (fun u hu => by simp at hu; subst hu; rfl) (by unfold maxLen; omega) (by omega) (by simp; omega)
  have hform : ∃ a' cap', v' = .slice a' (l.length + 1) cap' := by
    rcases ho'.2 with ⟨_, hn⟩ | ⟨g, cap, cur, e, _⟩
    · omega
    · exact ⟨_, _, e⟩
  obtain ⟨a', cap', rfl⟩ := hform
  have ho2 : Own B w' (.slice a' (l.length + 1) cap') (l ++ [b]) := by
    unfold Own
    rw [List.length_append, cells_append]
    exact ho'
  have hb2 : Below B w w' := below_own hB hbel hown hg
  refine BigFrame.wpList_want hwant fun K hK => ?_
  unfold Oper.wp execOp
  simp only [ho, resolve, invoke, builtin, Sem.run_bind, Sem.run_pure, Result.andThen_ok, List.map_toArray, List.map_cons, List.map_nil, hs, hx, hr]
  exact hK _ _ (h a' cap' w' ho2 hb2)

/-- string(b), of what is one's own -/
theorem conv_own {B : Nat} {w : World} {v : Value} {l : List Nat} (h : Own B w v l) : (convert 68 9 v).run Tryz.prog w = .ok (.string (strOf l)) w := by
  have h' := h
  obtain ⟨_, ⟨rfl, hn⟩ | ⟨g, cap, cur, rfl, _⟩⟩ := h
  · obtain rfl := List.length_eq_zero_iff.1 hn
    exact run_convert_bytes_nil w 68 5 Tryz.underlying68 Tryz.underlying5 0 0 9 Tryz.underlying9
  · exact run_convert_bytes_arg w 68 5 Tryz.underlying68 Tryz.underlying5 g 0 l.length cap _ (by simp) (fun i hi => by rw [Nat.zero_add, World.ownsRow.cellAt h' i (by omega)]; simp [cells, List.getElem?_eq_getElem hi]) 9 Tryz.underlying9
/-- string(b), of bytes that lie in a row -/
theorem conv_row (g cap : Nat) (l : List Nat) (w : World) (hc : ∀ i, i < l.length → w.cell? ⟨g, i, none⟩ = some (.int .u8 (l.getD i 0 : Nat))) :
    (convert 68 9 (.slice (some ⟨g, 0, none⟩) l.length cap)).run Tryz.prog w = .ok (.string (strOf l)) w :=
  run_convert_bytes_arg w 68 5 Tryz.underlying68 Tryz.underlying5 g 0 l.length cap _ (by simp) (fun i hi => by rw [Nat.zero_add, hc i hi]; simp [List.getElem?_eq_getElem hi]) 9 Tryz.underlying9
end Go.Proofs.YtlmgmdnmghgkbaaGreatDoor.L4

/- What the leaves do: the step of a byte by the table, and the sum of a text and of bytes, for every argument and in every world that holds the table. -/
namespace Go.Proofs.YtlmgmdnmghgkbaaGreatDoor.L4
open Go.ChangeShapes Go.WideShapes Go.ChangeAt Go.RowKit

/-- the table lies in block 0 -/
def Tab (w : World) : Prop := ∀ i, i < 16 → w.cell? ⟨0, i, none⟩ = some (.int .u32 (Crc.tab i : Nat))

theorem and15 (x : Nat) (hx : x < 4294967296) : bits .and .u32 (x : Int) 15 = ((x % 16 : Nat) : Int) := by
  have h := u32_and_nat x 15 hx (by decide)
  have e : x &&& 15 = x % 16 := Nat.and_two_pow_sub_one_eq_mod x 4
  rw [e] at h
  exact h
theorem xor_u32 (a b : Nat) (ha : a < 4294967296) (hb : b < 4294967296) : bits .xor .u32 (a : Int) (b : Int) = ((a ^^^ b : Nat) : Int) := u32_xor_nat a b ha hb


/-- what the two tables' steps come to, in the walk's own spelling -/
def stepI (s b : Int) : Int :=
  bits .xor .u32 (bits .xor .u32 (bits .xor .u32 s b / 16) (Crc.tab (bits .and .u32 (bits .xor .u32 s b) 15).toNat : Nat) / 16)
    (Crc.tab (bits .and .u32 (bits .xor .u32 (bits .xor .u32 s b / 16) (Crc.tab (bits .and .u32 (bits .xor .u32 s b) 15).toNat : Nat)) 15).toNat : Nat)

theorem stepI_eq (s b : Nat) (hs : s < 4294967296) (hb : b < 256) : stepI s b = (Crc.bstep s b : Nat) := by
  have h1 : s ^^^ b < 4294967296 := by
    have : s ^^^ b < 2 ^ 32 := Nat.xor_lt_two_pow (by omega) (by omega)
    simpa using this
  have h2 : Crc.half (s ^^^ b) < 4294967296 := Crc.half_lt h1
  have e1 : bits .xor .u32 ((s : Nat) : Int) (b : Nat) = ((s ^^^ b : Nat) : Int) := xor_u32 s b hs (by omega)
  have step : ∀ x : Nat, x < 4294967296 → bits .xor .u32 ((x : Int) / 16) (Crc.tab (bits .and .u32 (x : Int) 15).toNat : Nat) = ((Crc.half x : Nat) : Int) := by
    intro x hx
    rw [and15 x hx, Int.toNat_natCast]
    have := xor_u32 (x / 16) (Crc.tab (x % 16)) (by omega) (Crc.tab_lt _)
    rw [Int.natCast_ediv] at this
    exact this
  unfold stepI
  rw [e1, step _ h1, step _ h2, Crc.halves_eq]

set_option maxHeartbeats 400000 in
theorem step_raw (s b : Int) (w : World) (c1 c2 : Nat) (hb : 0 ≤ b ∧ b < 256)
    (hi : 0 ≤ bits .and .u32 (bits .xor .u32 s b) 15 ∧ bits .and .u32 (bits .xor .u32 s b) 15 < 16)
    (hc : w.cell? ⟨0, (bits .and .u32 (bits .xor .u32 s b) 15).toNat, none⟩ = some (.int .u32 (c1 : Nat)))
    (hj : 0 ≤ bits .and .u32 (bits .xor .u32 (bits .xor .u32 s b / 16) c1) 15 ∧ bits .and .u32 (bits .xor .u32 (bits .xor .u32 s b / 16) c1) 15 < 16)
    (hd : w.cell? ⟨0, (bits .and .u32 (bits .xor .u32 (bits .xor .u32 s b / 16) c1) 15).toNat, none⟩ = some (.int .u32 (c2 : Nat))) :
    Calls Tryz.prog 234 #[.int .u32 s, .int .u8 b] w fun e w' => e = .returned (.int .u32 (bits .xor .u32 (bits .xor .u32 (bits .xor .u32 s b / 16) c1 / 16) c2)) ∧ w' = w := by
  go_enter Tryz.func234, Tryz.ntmps234
  go_wp2
  all_goals go_ret
  all_goals exact ⟨rfl, rfl⟩

theorem step_any (s b : Int) (w : World) (hT : Tab w) (hs : 0 ≤ s ∧ s < 4294967296) (hb : 0 ≤ b ∧ b < 256) :
    Calls Tryz.prog 234 #[.int .u32 s, .int .u8 b] w fun e w' => e = .returned (.int .u32 (Crc.bstep s.toNat b.toNat : Nat)) ∧ w' = w := by
  obtain ⟨S, rfl⟩ := Int.eq_ofNat_of_zero_le hs.1
  obtain ⟨B, rfl⟩ := Int.eq_ofNat_of_zero_le hb.1
  have hS : S < 4294967296 := by omega
  have hB : B < 256 := by omega
  have h1 : S ^^^ B < 4294967296 := by
    have : S ^^^ B < 2 ^ 32 := Nat.xor_lt_two_pow (by omega) (by omega)
    simpa using this
  have h2 : Crc.half (S ^^^ B) < 4294967296 := Crc.half_lt h1
  have e1 : bits .xor .u32 ((S : Nat) : Int) (B : Nat) = ((S ^^^ B : Nat) : Int) := xor_u32 S B hS (by omega)
  have e2 : bits .xor .u32 (((S ^^^ B : Nat) : Int) / 16) (Crc.tab ((S ^^^ B) % 16) : Nat) = ((Crc.half (S ^^^ B) : Nat) : Int) := by
    have := xor_u32 ((S ^^^ B) / 16) (Crc.tab ((S ^^^ B) % 16)) (by omega) (Crc.tab_lt _)
    rw [Int.natCast_ediv] at this
    exact this
  have e3 := stepI_eq S B hS hB
  have a1 := and15 (S ^^^ B) h1
  have a2 := and15 (Crc.half (S ^^^ B)) h2
  have H := step_raw S B w (Crc.tab ((S ^^^ B) % 16)) (Crc.tab (Crc.half (S ^^^ B) % 16)) hb
    (by rw [e1, a1]; omega) (by rw [e1, a1, Int.toNat_natCast]; exact hT _ (by omega))
    (by rw [e1, e2, a2]; omega) (by rw [e1, e2, a2, Int.toNat_natCast]; exact hT _ (by omega))
  refine H.mono fun e w' ⟨he, hw⟩ => ⟨?_, hw⟩
  rw [he, Int.toNat_natCast, Int.toNat_natCast, ← e3]
  unfold stepI
  rw [e1, a1, Int.toNat_natCast, e2, a2, Int.toNat_natCast]

theorem bn_take_lt (s : ByteArray) (k : Nat) : ∀ b ∈ (bn s).take k, b < 256 := fun b hb => bn_lt s b (List.mem_of_mem_take hb)
theorem bn_snoc (s : ByteArray) (k : Nat) (h : k < s.size) : (bn s).take (k + 1) = (bn s).take k ++ [s[k].toNat] := by
  rw [List.take_succ_eq_append_getElem (by rw [bn_length]; exact h)]
  simp only [bn, List.getElem_map]
  rfl

theorem not_u32 (n : Nat) (h : n < 4294967296) : bits .xor .u32 IntKind.u32.max (n : Int) = ((n ^^^ 4294967295 : Nat) : Int) := by
  have := xor_u32 4294967295 n (by decide) h
  rw [Nat.xor_comm] at this
  exact this

set_option maxHeartbeats 400000 in
theorem text_any (s : ByteArray) (w : World) (hT : Tab w) (hs : s.size ≤ maxLen) :
    Calls Tryz.prog 210 #[.string s] w fun e w' => e = .returned (.int .u32 (Crc.sum (bn s) : Nat)) ∧ w' = w := by
  unfold maxLen at hs
  have HT : Hid (Tab w) := hT
  clear hT
  go_enter Tryz.func210, Tryz.ntmps210
  go_wp2
  go_loop [3, 7] (fun t i => ∃ k : Nat, k ≤ s.size ∧ i = .int .i64 k ∧ t = .int .u32 (Crc.run 4294967295 ((bn s).take k) : Nat)) (fun _ i => s.size - (intOf i).toNat)
  case atStart => exact ⟨0, Nat.zero_le _, rfl, rfl⟩
  case round =>
    obtain ⟨k, hk, rfl, rfl⟩ := hrel
    have hr : Crc.run 4294967295 ((bn s).take k) < 4294967296 := Crc.run_lt _ (by decide) (bn_take_lt s k)
    by_cases hlt : k < s.size
    · have hb : (s[k].toNat : Int) < 256 := by have := s[k].toNat_lt; omega
      have HS : Hid (Crc.run 4294967295 ((bn s).take (k + 1)) = Crc.bstep (Crc.run 4294967295 ((bn s).take k)) s[k].toNat) := by
        show _ = _
        rw [bn_snoc s k hlt, Crc.run_snoc]
      generalize Crc.run 4294967295 ((bn s).take k) = r at *
      go_wp2_with (go_at_call 234; refine (step_any _ _ _ HT.out (by omega) (by omega)).mono ?_; rintro e w' ⟨rfl, rfl⟩)
      go_round
      case rel => exact ⟨k + 1, by omega, by go_num, by rw [HS.out]⟩
      case measure => simp [intOf]; omega
    · go_wp2
      go_ret
      refine ⟨ret_int ?_, rfl⟩
      have hall : (bn s).take k = bn s := List.take_of_length_le (by rw [bn_length]; omega)
      rw [hall] at hr ⊢
      exact not_u32 _ hr

/-- THE DOCUMENT's: eight shifts a byte -/
theorem and1 (x : Nat) (hx : x < 4294967296) : bits .and .u32 (x : Int) 1 = ((x % 2 : Nat) : Int) := by
  have h := u32_and_nat x 1 hx (by decide)
  rw [Nat.and_one_is_mod] at h
  exact h

theorem shn_succ (k x : Nat) : Crc.shn (k + 1) x = Crc.sh (Crc.shn k x) := by rw [Crc.shn_add]; rfl
theorem sh_odd (y : Nat) (h : y % 2 = 1) (hy : y < 4294967296) : bits .xor .u32 ((y : Int) / 2) 2197175160 = ((Crc.sh y : Nat) : Int) := by
  have := xor_u32 (y / 2) 2197175160 (by omega) (by decide)
  rw [Int.natCast_ediv] at this
  unfold Crc.sh
  rw [if_pos h]
  exact this
theorem sh_even (y : Nat) (h : ¬ y % 2 = 1) : (y : Int) / 2 = ((Crc.sh y : Nat) : Int) := by
  unfold Crc.sh
  rw [if_neg h]
  omega

set_option maxHeartbeats 400000 in
theorem refMore_any (c : Int) (s : ByteArray) (w : World) (hc : 0 ≤ c ∧ c < 4294967296) (hs : s.size ≤ maxLen) :
    Calls Tryz.prog 181 #[.int .u32 c, .string s] w fun e w' => e = .returned (.int .u32 (Crc.more c.toNat (bn s) : Nat)) ∧ w' = w := by
  unfold maxLen at hs
  obtain ⟨C, rfl⟩ := Int.eq_ofNat_of_zero_le hc.1
  have hC : C < 4294967296 := by omega
  have hn := not_u32 C hC
  have hnl := Crc.not_lt hC
  rw [Int.toNat_natCast]
  go_enter Tryz.func181, Tryz.ntmps181
  go_wp2
  go_loop [0, 5] (fun t i => ∃ k : Nat, k ≤ s.size ∧ i = .int .i64 k ∧ t = .int .u32 (Crc.run (C ^^^ 4294967295) ((bn s).take k) : Nat)) (fun _ i => s.size - (intOf i).toNat)
  case atStart => exact ⟨0, Nat.zero_le _, rfl, rfl⟩
  case round =>
    obtain ⟨k, hk, rfl, rfl⟩ := hrel
    clear hn
    have hr : Crc.run (C ^^^ 4294967295) ((bn s).take k) < 4294967296 := Crc.run_lt _ hnl (bn_take_lt s k)
    by_cases hlt : k < s.size
    · have hb : s[k].toNat < 256 := s[k].toNat_lt
      have HS : Hid (Crc.run (C ^^^ 4294967295) ((bn s).take (k + 1)) = Crc.bstep (Crc.run (C ^^^ 4294967295) ((bn s).take k)) s[k].toNat) := by
        show _ = _
        rw [bn_snoc s k hlt, Crc.run_snoc]
      generalize Crc.run (C ^^^ 4294967295) ((bn s).take k) = r at *
      have hx := xor_u32 r s[k].toNat hr (by omega)
      have hxl : r ^^^ s[k].toNat < 4294967296 := by
        have : r ^^^ s[k].toNat < 2 ^ 32 := Nat.xor_lt_two_pow (by omega) (by omega)
        simpa using this
      go_wp2
      go_loop [0, 6] (fun t i => ∃ m : Nat, m ≤ 8 ∧ i = .int .i64 m ∧ t = .int .u32 (Crc.shn m (r ^^^ s[k].toNat) : Nat)) (fun _ i => 8 - (intOf i).toNat)
      case atStart => exact ⟨0, Nat.zero_le _, rfl, rfl⟩
      case round =>
        obtain ⟨m, hm, rfl, rfl⟩ := hrel
        have hy : Crc.shn m (r ^^^ s[k].toNat) < 4294967296 := Crc.shn_lt m hxl
        have HM : Hid (Crc.shn (m + 1) (r ^^^ s[k].toNat) = Crc.sh (Crc.shn m (r ^^^ s[k].toNat))) := shn_succ _ _
        have HE : Hid (m = 8 → Crc.shn m (r ^^^ s[k].toNat) = Crc.bstep r s[k].toNat) := fun h => by rw [h]; rfl
        clear hx
        by_cases hlt8 : m < 8
        · clear HE
          generalize Crc.shn m (r ^^^ s[k].toNat) = y at *
          by_cases ho : y % 2 = 1
          · have ha : bits .and .u32 (y : Int) 1 = 1 := by rw [and1 y hy, ho]; rfl
            have hz := sh_odd y ho hy
            clear ho
            go_wp2
            go_round
            case rel => exact ⟨m + 1, by omega, by go_num, by rw [HM.out]⟩
            case measure => simp [intOf]; omega
          · have ha : bits .and .u32 (y : Int) 1 = 0 := by rw [and1 y hy]; omega
            have HZ : Hid ((y : Int) / 2 = ((Crc.sh y : Nat) : Int)) := sh_even y ho
            clear ho
            go_wp2
            go_round
            case rel => exact ⟨m + 1, by omega, by go_num, by rw [HM.out, HZ.out]⟩
            case measure => simp [intOf]; omega
        · have HF := HE.out (by omega)
          clear HE HM
          generalize Crc.shn m (r ^^^ s[k].toNat) = y at *
          have HF' : Hid (y = Crc.bstep r s[k].toNat) := HF
          clear HF
          go_wp2
          go_round
          case rel => exact ⟨k + 1, by omega, by go_num, by rw [HS.out, HF'.out]⟩
          case measure => simp [intOf]; omega
    · go_wp2
      go_ret
      refine ⟨ret_int ?_, rfl⟩
      have hall : (bn s).take k = bn s := List.take_of_length_le (by rw [bn_length]; omega)
      rw [hall] at hr ⊢
      exact not_u32 _ hr
set_option maxHeartbeats 400000 in
theorem refSum_any (s : ByteArray) (w : World) (hs : s.size ≤ maxLen) :
    Calls Tryz.prog 134 #[.string s] w fun e w' => e = .returned (.int .u32 (Crc.sum (bn s) : Nat)) ∧ w' = w := by
  go_enter Tryz.func134, Tryz.ntmps134
  go_wp2_with (go_at_call 181; refine (refMore_any _ _ _ (by omega) hs).mono ?_; rintro e w' ⟨rfl, rfl⟩)
  go_ret
  exact ⟨rfl, rfl⟩

end Go.Proofs.YtlmgmdnmghgkbaaGreatDoor.L4

/- The plain mathematics of a block's sector: its bytes, which bytes are one, there and back, turned bits. No program is spoken of here. -/
namespace Go.Proofs.YtlmgmdnmghgkbaaGreatDoor.L4.Blk

/-- a sum in four bytes, the lowest first -/
def le4 (c : Nat) : List Nat := [c % 256, c / 256 % 256, c / 65536 % 256, c / 16777216 % 256]
def num4 (a b c d : Nat) : Nat := a + b * 256 + c * 65536 + d * 16777216
theorem le4_num4 {a b c d : Nat} (ha : a < 256) (hb : b < 256) (hc : c < 256) (hd : d < 256) : le4 (num4 a b c d) = [a, b, c, d] := by
  simp only [le4, num4, List.cons.injEq, and_true]
  omega
theorem num4_le4 {c : Nat} (h : c < 4294967296) : num4 (c % 256) (c / 256 % 256) (c / 65536 % 256) (c / 16777216 % 256) = c := by
  unfold num4
  omega
theorem le4_lt (c : Nat) : ∀ b ∈ le4 c, b < 256 := by
  intro b hb
  simp only [le4, List.mem_cons, List.not_mem_nil, or_false] at hb
  rcases hb with rfl | rfl | rfl | rfl <;> exact Nat.mod_lt _ (by decide)
theorem num4_eq {a b c d x : Nat} (ha : a < 256) (hb : b < 256) (hc : c < 256) (hd : d < 256) (hx : x < 4294967296) : [a, b, c, d] = le4 x ↔ x = num4 a b c d := by
  constructor
  · intro h
    simp only [le4, List.cons.injEq, and_true] at h
    obtain ⟨rfl, rfl, rfl, rfl⟩ := h
    exact (num4_le4 hx).symm
  · rintro rfl
    exact (le4_num4 ha hb hc hd).symm

theorem xor_up (a x : Nat) (h : a < 256) : a ^^^ (x * 256) = x * 256 + a := by
  have := Crc.split_low (x * 256 + a) 8
  have e1 : (x * 256 + a) / 2 ^ 8 = x := by omega
  have e2 : (x * 256 + a) % 2 ^ 8 = a := by omega
  rw [e1, e2, Nat.xor_comm] at this
  exact this.symm
theorem msg_le4 (c : Nat) (h : c < 4294967296) : Crc.msg (le4 c) = c := by
  have e : Crc.msg (le4 c) = (c % 256) ^^^ (((c / 256 % 256) ^^^ (((c / 65536 % 256) ^^^ (((c / 16777216 % 256) ^^^ (0 * 256)) * 256)) * 256)) * 256) := rfl
  rw [e, xor_up _ _ (Nat.mod_lt _ (by decide)), xor_up _ _ (Nat.mod_lt _ (by decide)), xor_up _ _ (Nat.mod_lt _ (by decide)), xor_up _ _ (Nat.mod_lt _ (by decide))]
  omega

/-- bytes with their own sum behind have ever the same sum -/
theorem sum_fits (l : List Nat) (hl : ∀ b ∈ l, b < 256) : Crc.sum (l ++ le4 (Crc.sum l)) = Crc.shn 32 4294967295 ^^^ 4294967295 := by
  have hs := Crc.sum_lt l hl
  have e : Crc.sum (l ++ le4 (Crc.sum l)) = Crc.run (Crc.run 4294967295 l) (le4 (Crc.sum l)) ^^^ 4294967295 := by
    show Crc.run (0 ^^^ 4294967295) (l ++ le4 (Crc.sum l)) ^^^ 4294967295 = _
    rw [Crc.run_append]
    rfl
  rw [e, Crc.run_eq, msg_le4 _ hs]
  have e2 : Crc.sum l = Crc.run 4294967295 l ^^^ 4294967295 := rfl
  rw [e2, ← Nat.xor_assoc, Nat.xor_self, Nat.zero_xor]
  rfl

/-- THE DOCUMENT's: a block's sector -/
def head (k n g : Nat) : List Nat := [67, 80, k, n / 256, n % 256] ++ Pk.fixL g
def body (k g : Nat) (p : List Nat) : List Nat := head k p.length g ++ (p ++ List.replicate (1007 - p.length) 0)
def sector (k g : Nat) (p : List Nat) : List Nat := body k g p ++ le4 (Crc.sum (body k g p))
theorem body_length (k g : Nat) (p : List Nat) (hp : p.length ≤ 1007) : (body k g p).length = 1020 := by
  simp only [body, head, List.length_append, List.length_cons, List.length_nil, List.length_replicate, Pk.fixL_length]
  omega
theorem sector_length (k g : Nat) (p : List Nat) (hp : p.length ≤ 1007) : (sector k g p).length = 1024 := by
  simp only [sector, List.length_append, body_length k g p hp, le4, List.length_cons, List.length_nil]
theorem body_lt {k g : Nat} {p : List Nat} (hk : k < 256) (hn : p.length ≤ 1007) (hp : ∀ b ∈ p, b < 256) : ∀ b ∈ body k g p, b < 256 := by
  intro b hb
  simp only [body, head, List.mem_append, List.mem_cons, List.not_mem_nil, or_false, List.mem_replicate] at hb
  rcases hb with (h | h) | h | h
  · omega
  · exact Pk.fixL_lt g b h
  · exact hp b h
  · omega
theorem sector_lt {k g : Nat} {p : List Nat} (hk : k < 256) (hn : p.length ≤ 1007) (hp : ∀ b ∈ p, b < 256) : ∀ b ∈ sector k g p, b < 256 := by
  intro b hb
  rcases List.mem_append.1 hb with h | h
  · exact body_lt hk hn hp b h
  · exact le4_lt _ b h

/-- what is asked of a sector -/
def lenOf (l : List Nat) : Nat := l.getD 3 0 * 256 + l.getD 4 0
def genOf (l : List Nat) : Nat := Pk.fixN ((l.drop 5).take 8)
def Fits (l : List Nat) : Prop := l.drop 1020 = le4 (Crc.sum (l.take 1020))
def Good (l : List Nat) : Prop := l.take 2 = [67, 80] ∧ lenOf l ≤ 1007 ∧ genOf l ≤ 1152921504606846976 ∧ ∀ x ∈ (l.take 1020).drop (13 + lenOf l), x = 0
def payOf (l : List Nat) : List Nat := (l.drop 13).take (lenOf l)

theorem take_body (k g : Nat) (p : List Nat) (hp : p.length ≤ 1007) : (sector k g p).take 1020 = body k g p := by
  unfold sector
  rw [List.take_append_of_le_length (by rw [body_length k g p hp]; exact Nat.le_refl _), List.take_of_length_le (by rw [body_length k g p hp]; exact Nat.le_refl _)]
theorem drop_body (k g : Nat) (p : List Nat) (hp : p.length ≤ 1007) : (sector k g p).drop 1020 = le4 (Crc.sum (body k g p)) := by
  unfold sector
  rw [List.drop_append_of_le_length (by rw [body_length k g p hp]; exact Nat.le_refl _), List.drop_of_length_le (by rw [body_length k g p hp]; exact Nat.le_refl _)]
  rfl
theorem fits_sector (k g : Nat) (p : List Nat) (hp : p.length ≤ 1007) : Fits (sector k g p) := by
  unfold Fits
  rw [take_body k g p hp, drop_body k g p hp]
theorem lenOf_sector (k g : Nat) (p : List Nat) : lenOf (sector k g p) = p.length := by
  show p.length / 256 * 256 + p.length % 256 = _
  omega
theorem genOf_sector (k g : Nat) (p : List Nat) (hg : g < 18446744073709551616) : genOf (sector k g p) = g := by
  have e : ((sector k g p).drop 5).take 8 = Pk.fixL g := rfl
  unfold genOf
  rw [e, Pk.fixN_fixL g hg]
theorem kind_sector (k g : Nat) (p : List Nat) : (sector k g p).getD 2 0 = k := rfl
theorem rest_sector (k g : Nat) (p : List Nat) : (sector k g p).drop 13 = p ++ List.replicate (1007 - p.length) 0 ++ le4 (Crc.sum (body k g p)) := rfl
theorem payOf_sector (k g : Nat) (p : List Nat) : payOf (sector k g p) = p := by
  unfold payOf
  rw [lenOf_sector, rest_sector, List.append_assoc, List.take_append_of_le_length (Nat.le_refl _), List.take_of_length_le (Nat.le_refl _)]
theorem good_sector (k g : Nat) (p : List Nat) (hp : p.length ≤ 1007) (hg : g ≤ 1152921504606846976) : Good (sector k g p) := by
  refine ⟨rfl, by rw [lenOf_sector]; exact hp, by rw [genOf_sector k g p (by omega)]; exact hg, ?_⟩
  intro x hx
  rw [lenOf_sector, take_body k g p hp, ← List.drop_drop] at hx
  have e : (body k g p).drop 13 = p ++ List.replicate (1007 - p.length) 0 := rfl
  rw [e, List.drop_append_of_le_length (Nat.le_refl _), List.drop_of_length_le (Nat.le_refl _), List.nil_append] at hx
  exact (List.mem_replicate.1 hx).2

theorem five (l : List Nat) (h : 5 ≤ l.length) : ∃ a b c d e r, l = a :: b :: c :: d :: e :: r := by
  match l, h with
  | a :: b :: c :: d :: e :: r, _ => exact ⟨a, b, c, d, e, r, rfl⟩
/-- what is a block's sector is that block's -/
theorem sector_of {l : List Nat} (hlen : l.length = 1024) (hl : ∀ b ∈ l, b < 256) (hf : Fits l) (hg : Good l) : l = sector (l.getD 2 0) (genOf l) (payOf l) ∧ (payOf l).length = lenOf l := by
  obtain ⟨h2, hn, _, hz⟩ := hg
  obtain ⟨a, b, k, x, y, r, rfl⟩ := five l (by omega)
  have hr : r.length = 1019 := by simpa using hlen
  have hx : x < 256 := hl x (by simp)
  have hy : y < 256 := hl y (by simp)
  obtain ⟨rfl, rfl⟩ : a = 67 ∧ b = 80 := by simpa using h2
  have en : lenOf (67 :: 80 :: k :: x :: y :: r) = x * 256 + y := rfl
  have eg : genOf (67 :: 80 :: k :: x :: y :: r) = Pk.fixN (r.take 8) := rfl
  have ep : payOf (67 :: 80 :: k :: x :: y :: r) = (r.drop 8).take (x * 256 + y) := rfl
  have ek : (67 :: 80 :: k :: x :: y :: r).getD 2 0 = k := rfl
  have e8 : Pk.fixL (Pk.fixN (r.take 8)) = r.take 8 := Pk.fixL_fixN _ (by rw [List.length_take]; omega) (fun c hc => hl c (by have := List.mem_of_mem_take hc; simp [this]))
  rw [en] at hn hz
  have hpl : ((r.drop 8).take (x * 256 + y)).length = x * 256 + y := by rw [List.length_take, List.length_drop]; omega
  have hb : (67 :: 80 :: k :: x :: y :: r).take 1020 = body k (Pk.fixN (r.take 8)) ((r.drop 8).take (x * 256 + y)) := by
    have e1 : (67 :: 80 :: k :: x :: y :: r).take 1020 = [67, 80, k, x, y] ++ r.take 1015 := rfl
    have e2 : r.take 1015 = r.take 8 ++ ((r.drop 8).take (x * 256 + y) ++ ((r.drop 8).drop (x * 256 + y)).take (1007 - (x * 256 + y))) := by
      have f1 : r.take 1015 = r.take 8 ++ (r.drop 8).take 1007 := by
        rw [show (1015 : Nat) = 8 + 1007 from rfl, List.take_add]
      have f2 : (r.drop 8).take 1007 = (r.drop 8).take (x * 256 + y) ++ ((r.drop 8).drop (x * 256 + y)).take (1007 - (x * 256 + y)) := by
        have : (1007 : Nat) = (x * 256 + y) + (1007 - (x * 256 + y)) := by omega
        rw [this, List.take_add, show (x * 256 + y) + (1007 - (x * 256 + y)) - (x * 256 + y) = 1007 - (x * 256 + y) by omega]
      rw [f1, f2]
    have e3 : ((r.drop 8).drop (x * 256 + y)).take (1007 - (x * 256 + y)) = List.replicate (1007 - (x * 256 + y)) 0 := by
      refine List.eq_replicate_iff.2 ⟨by rw [List.length_take, List.length_drop, List.length_drop]; omega, ?_⟩
      intro b hb
      refine hz b ?_
      have g1 : ((67 :: 80 :: k :: x :: y :: r).take 1020).drop (13 + (x * 256 + y)) = ((r.take 1015).drop 8).drop (x * 256 + y) := by
        rw [← List.drop_drop]
        rfl
      rw [g1, List.drop_take, List.drop_take, show 1015 - 8 - (x * 256 + y) = 1007 - (x * 256 + y) by omega]
      exact hb
    unfold body head
    rw [hpl, e1, e2, e3, e8, show (x * 256 + y) / 256 = x by omega, show (x * 256 + y) % 256 = y by omega]
    rfl
  refine ⟨?_, by rw [ep, en]; exact hpl⟩
  rw [ek, eg, ep]
  unfold sector
  unfold Fits at hf
  rw [hb] at hf
  rw [← hf, ← hb, List.take_append_drop]

/-- TURNED BITS: the sum doesn't fit -/
theorem turned_out {l l' : List Nat} (hlen : l.length = 1024) (hlen' : l'.length = 1024) (hl : ∀ b ∈ l, b < 256) (hl' : ∀ b ∈ l', b < 256) (hf : Fits l) (m at' : Nat) (hm : m < 4294967296) (h0 : m ≠ 0) (hat : at' ≤ 8192)
    (h : Crc.msg l' = Crc.msg l ^^^ (m * 2 ^ at')) : ¬ Fits l' := by
  intro hf'
  have e : ∀ q : List Nat, (∀ b ∈ q, b < 256) → Fits q → Crc.sum q = Crc.shn 32 4294967295 ^^^ 4294967295 := by
    intro q hq hfq
    have := sum_fits (q.take 1020) (fun b hb => hq b (List.mem_of_mem_take hb))
    unfold Fits at hfq
    rw [← hfq, List.take_append_drop] at this
    exact this
  exact Crc.sum_turned (l := l) (l' := l') (by rw [hlen, hlen']) m at' hm h0 (by rw [hlen]; exact hat) h ((e l' hl' hf').trans (e l hl hf).symm)

/-- zeros are no block -/
theorem z0 : Crc.shn 1020 4294967295 = 1265583391 := by decide +kernel
theorem z1 : Crc.shn 1020 1265583391 = 3929728358 := by decide +kernel
theorem z2 : Crc.shn 1020 3929728358 = 1269030502 := by decide +kernel
theorem z3 : Crc.shn 1020 1269030502 = 3830750836 := by decide +kernel
theorem z4 : Crc.shn 1020 3830750836 = 3456249395 := by decide +kernel
theorem z5 : Crc.shn 1020 3456249395 = 1218594573 := by decide +kernel
theorem z6 : Crc.shn 1020 1218594573 = 959913629 := by decide +kernel
theorem z7 : Crc.shn 1020 959913629 = 1237201437 := by decide +kernel
theorem shn_zeros : Crc.shn 8160 4294967295 = 1237201437 := by
  rw [show (8160 : Nat) = 1020 + (1020 + (1020 + (1020 + (1020 + (1020 + (1020 + 1020)))))) from rfl, Crc.shn_add, z0, Crc.shn_add, z1, Crc.shn_add, z2, Crc.shn_add, z3, Crc.shn_add, z4, Crc.shn_add, z5, Crc.shn_add, z6, z7]
theorem msg_zeros : ∀ n, Crc.msg (List.replicate n 0) = 0
  | 0 => rfl
  | n + 1 => by
    show 0 ^^^ (Crc.msg (List.replicate n 0) * 256) = 0
    rw [msg_zeros n]
    rfl
theorem zeros_out : ¬ Fits (List.replicate 1024 0) := by
  unfold Fits
  have e1 : (List.replicate 1024 0).drop 1020 = [0, 0, 0, 0] := by rw [List.drop_replicate]; rfl
  have e2 : (List.replicate 1024 0).take 1020 = List.replicate 1020 0 := by rw [List.take_replicate]; rfl
  rw [e1, e2]
  intro h
  have h1 := (num4_eq (a := 0) (b := 0) (c := 0) (d := 0) (by decide) (by decide) (by decide) (by decide) (Crc.sum_lt (List.replicate 1020 0) (fun b hb => by rw [(List.mem_replicate.1 hb).2]; decide))).1 h
  have h2 : ∀ l, Crc.sum l = Crc.run 4294967295 l ^^^ 4294967295 := fun l => rfl
  rw [h2, Crc.run_eq, msg_zeros, List.length_replicate, show 8 * 1020 = 8160 from rfl, Nat.xor_zero, shn_zeros] at h1
  revert h1
  decide
end Go.Proofs.YtlmgmdnmghgkbaaGreatDoor.L4.Blk

/- What block's sum does: the sum of a text in four bytes. -/
namespace Go.Proofs.YtlmgmdnmghgkbaaGreatDoor.L4
open Go.ChangeShapes Go.WideShapes Go.ChangeAt Go.RowKit

theorem four_conv (w : World) (a b c d : Int) :
    (convert 68 9 (.slice (some ⟨w.heap.size, 0, none⟩) 4 4)).run Tryz.prog (w.alloc (.cells #[.int .u8 a, .int .u8 b, .int .u8 c, .int .u8 d] 5)) = .ok (.string (strOfNums [a, b, c, d])) (w.alloc (.cells #[.int .u8 a, .int .u8 b, .int .u8 c, .int .u8 d] 5)) :=
  run_convert_bytes_arg _ 68 5 Tryz.underlying68 Tryz.underlying5 w.heap.size 0 4 4 [a, b, c, d] (by simp) (fun i hi => by
    have e : i = 0 ∨ i = 1 ∨ i = 2 ∨ i = 3 := by omega
    rcases e with rfl | rfl | rfl | rfl <;> simp) 9 Tryz.underlying9
theorem four_le (c : Nat) {x y z u : Int} (hx : x = ((c % 256 : Nat) : Int)) (hy : y = ((c / 256 % 256 : Nat) : Int)) (hz : z = ((c / 65536 % 256 : Nat) : Int)) (hu : u = ((c / 16777216 % 256 : Nat) : Int)) :
    strOfNums [x, y, z, u] = strOf (Blk.le4 c) := by
  rw [hx, hy, hz, hu]
  rfl
theorem ret_str {a b : ByteArray} (h : a = b) : Ending.returned (.string a) = .returned (.string b) := by rw [h]

set_option maxHeartbeats 400000 in
theorem sumOf_any (s : ByteArray) (w : World) (hT : Tab w) (hs : s.size ≤ maxLen) :
    Calls Tryz.prog 171 #[.string s] w fun e w' => e = .returned (.string (strOf (Blk.le4 (Crc.sum (bn s))))) ∧ Below w.heap.size w w' := by
  have hc := Crc.sum_lt (bn s) (bn_lt s)
  have HS := hide (text_any s w hT hs)
  have hv := four_conv w
  clear hT
  generalize Crc.sum (bn s) = c at *
  go_enter Tryz.func171, Tryz.ntmps171
  go_wp2_with (go_at_call 210; refine (unhide HS).mono ?_; rintro e w' ⟨rfl, hw⟩; have hw := hw.symm; subst hw)
  go_ret
  exact ⟨ret_str (four_le c (by omega) (by omega) (by omega) (by omega)), (Below.refl _ _).alloc (Nat.le_refl _) _⟩
end Go.Proofs.YtlmgmdnmghgkbaaGreatDoor.L4

/- What the two Fixeds do: a fixed number's bytes. -/
namespace Go.Proofs.YtlmgmdnmghgkbaaGreatDoor.L4
open Go.ChangeShapes Go.WideShapes Go.ChangeAt Go.RowKit

theorem fixed_conv (N : Nat) (hN : N < 18446744073709551616) (w : World) :
    (convert 68 9 (.slice (some ⟨w.heap.size, 0, none⟩) 8 8)).run Tryz.prog (w.alloc (.cells #[.int .u8 ((N : Int) / 72057594037927936), .int .u8 ((N : Int) / 281474976710656 % 256), .int .u8 ((N : Int) / 1099511627776 % 256), .int .u8 ((N : Int) / 4294967296 % 256),
        .int .u8 ((N : Int) / 16777216 % 256), .int .u8 ((N : Int) / 65536 % 256), .int .u8 ((N : Int) / 256 % 256), .int .u8 ((N : Int) % 256)] 315)) =
      .ok (.string (strOf (Pk.fixL N))) (w.alloc (.cells #[.int .u8 ((N : Int) / 72057594037927936), .int .u8 ((N : Int) / 281474976710656 % 256), .int .u8 ((N : Int) / 1099511627776 % 256), .int .u8 ((N : Int) / 4294967296 % 256),
        .int .u8 ((N : Int) / 16777216 % 256), .int .u8 ((N : Int) / 65536 % 256), .int .u8 ((N : Int) / 256 % 256), .int .u8 ((N : Int) % 256)] 315)) := by
  refine conv_row w.heap.size 8 (Pk.fixL N) _ (fun i hi => ?_)
  have hi8 : i < 8 := hi
  have d : ∀ i : Nat, i < 8 → i = 0 ∨ i = 1 ∨ i = 2 ∨ i = 3 ∨ i = 4 ∨ i = 5 ∨ i = 6 ∨ i = 7 := by omega
  rcases d i hi8 with rfl | rfl | rfl | rfl | rfl | rfl | rfl | rfl <;> simp [Pk.fixL]
  omega

set_option maxRecDepth 10000 in
set_option maxHeartbeats 1000000 in
theorem fixed_any (n : Int) (w : World) (hn : 0 ≤ n ∧ n < 18446744073709551616) :
    Calls Tryz.prog 169 #[.int .u64 n] w fun e w' => e = .returned (.string (strOf (Pk.fixL n.toNat))) ∧ Below w.heap.size w w' := by
  obtain ⟨N, rfl⟩ := Int.eq_ofNat_of_zero_le hn.1
  have hN : N < 18446744073709551616 := by omega
  rw [Int.toNat_natCast]
  have hcv := fixed_conv N hN w
  go_enter Tryz.func169, Tryz.ntmps169
  go_wp2
  refine wp_loop_rounds 9 ?_
  rw [rounds_succ]
  go_wp2
  iterate 8 (rw [rounds_succ]; go_wp2)
  go_ret
  exact ⟨rfl, (Below.refl _ _).alloc (Nat.le_refl _) _⟩

theorem strOf_append (l r : List Nat) : strOf (l ++ r) = strOf l ++ strOf r := by
  apply ByteArray.ext
  apply Array.toList_inj.1
  rw [ByteArray.data_append, Array.toList_append]
  unfold strOf
  simp only [strOfNums_data, List.map_append]
theorem strOf_one (x : Nat) : strOfNums [(x : Int)] = strOf [x] := rfl

theorem one_conv (w : World) (x : Int) :
    (convert 68 9 (.slice (some ⟨w.heap.size, 0, none⟩) 1 1)).run Tryz.prog (w.alloc (.cells #[.int .u8 x] 5)) = .ok (.string (strOfNums [x])) (w.alloc (.cells #[.int .u8 x] 5)) :=
  run_convert_bytes_arg _ 68 5 Tryz.underlying68 Tryz.underlying5 w.heap.size 0 1 1 [x] (by simp) (fun i hi => by
    have : i = 0 := by omega
    subst this
    simp) 9 Tryz.underlying9

theorem fixed_step (N j : Nat) (x : Int) (hj : j < 8) (hx : x = ((Pk.fixL N).getD j 0 : Nat)) : strOf ((Pk.fixL N).take j) ++ strOfNums [x] = strOf ((Pk.fixL N).take (j + 1)) := by
  have h8 : j < (Pk.fixL N).length := hj
  rw [hx, strOf_one, ← strOf_append, List.take_succ_eq_append_getElem h8, List.getD_eq_getElem?_getD, List.getElem?_eq_getElem h8]
  rfl

set_option maxRecDepth 10000 in
set_option maxHeartbeats 2000000 in
theorem refFixed_any (n : Int) (w : World) (hn : 0 ≤ n ∧ n < 18446744073709551616) :
    Calls Tryz.prog 133 #[.int .u64 n] w fun e w' => e = .returned (.string (strOf (Pk.fixL n.toNat))) ∧ Below w.heap.size w w' := by
  obtain ⟨N, rfl⟩ := Int.eq_ofNat_of_zero_le hn.1
  have hN : N < 18446744073709551616 := by omega
  rw [Int.toNat_natCast]
  generalize hB : w.heap.size = B at *
  have HB := hide hB
  clear hB
  have hz1 : ∀ x : Int, (strOfNums [x]).size = 1 := fun x => by rw [strOfNums_size]; rfl
  go_enter Tryz.func133, Tryz.ntmps133
  go_wp2
  go_loopw [3, 4] (fun t k wr => ∃ j : Nat, j ≤ 8 ∧ k = .int .i64 (56 - 8 * j) ∧ t = .string (strOf ((Pk.fixL N).take j)) ∧ Below B w wr) (fun _ k _ => (intOf k + 8).toNat)
  case atStart => exact ⟨0, by omega, rfl, rfl, Below.refl _ _⟩
  case round =>
    obtain ⟨j, hj, rfl, rfl, hbel⟩ := hrel
    have hBw : B ≤ wr.heap.size := by have := hbel.size; have := unhide HB; omega
    have hz : (strOf ((Pk.fixL N).take j)).size ≤ 8 := by rw [strOf_size, List.length_take]; omega
    have hcv := one_conv wr
    have HBel := hide hbel
    clear hbel
    have HS := hide (fixed_step N j)
    have HE : Hid (j = 8 → strOf ((Pk.fixL N).take j) = strOf (Pk.fixL N)) := fun h => by subst h; rfl
    generalize strOf ((Pk.fixL N).take j) = S at *
    have d : j = 0 ∨ j = 1 ∨ j = 2 ∨ j = 3 ∨ j = 4 ∨ j = 5 ∨ j = 6 ∨ j = 7 ∨ j = 8 := by omega
    rcases d with rfl | rfl | rfl | rfl | rfl | rfl | rfl | rfl | rfl
    case inr.inr.inr.inr.inr.inr.inr.inr =>
      obtain rfl := unhide HE rfl
      go_wp2
      go_ret
      exact ⟨rfl, unhide HBel⟩
    all_goals
      go_wp2
      go_roundw
      case rel =>
        refine ⟨_, ?_, ?_, congrArg Value.string (unhide HS _ (by decide) ?_), (unhide HBel).alloc hBw _⟩
        · decide
        · rfl
        · simp [Pk.fixL]
          try omega
      case measure => simp [intOf]
end Go.Proofs.YtlmgmdnmghgkbaaGreatDoor.L4
