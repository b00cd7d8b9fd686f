/- Small words: what is hidden from the walk; nothing but these blocks has turned. -/
import Derived.Test.YtkfpeffiphdhmaaRows
import Derived.Test.YtkfpeffiphdhmaaMath
import Derived.WalkKit
import Derived.ProofKit
import Derived.OpenShut
import Derived.WalkLawsBesides
import Derived.WalkSpells
import Derived.Outline
import Derived.BigFrame
import Derived.Deep.RegionHeld3
import Derived.Deep.QuietTactic
import Derived.BigQuiet
import Derived.Maps.RangeWalk
import Derived.Maps.Ext
import Derived.Laws.MakeOwn
namespace Go.Proofs.Ytkfpeffiphdhmaa
open Go.ChangeShapes Go.WideShapes Go.ChangeAt Go.RowKit

theorem hide {p : Prop} (h : p) : Hid p := h
theorem unhide {p : Prop} (h : Hid p) : p := h

/-- nothing but these blocks has turned -/
structure Moves (fp : List Nat) (w w' : World) : Prop where
  os : w'.os = w.os
  tape : w'.tape = w.tape
  output : w'.output = w.output
  size : w.heap.size ≤ w'.heap.size
  block : ∀ k, k < w.heap.size → k ∉ fp → w'.heap[k]? = w.heap[k]?

theorem Moves.refl (fp : List Nat) (w : World) : Moves fp w w := ⟨rfl, rfl, rfl, Nat.le_refl _, fun _ _ _ => rfl⟩
theorem Moves.of_below {w w' : World} (fp : List Nat) (h : Below w.heap.size w w') : Moves fp w w' := ⟨h.os, h.tape, h.output, h.size, fun k hk _ => h.block k hk⟩
theorem Moves.to_below {w w' : World} (h : Moves [] w w') : Below w.heap.size w w' := ⟨h.os, h.tape, h.output, h.size, fun k hk => h.block k hk List.not_mem_nil⟩
theorem Moves.of_grown {w w' : World} {r : Option Nat} {fp : List Nat} (h : w.grownBy w' r) (hr : ∀ k, r = some k → k ∈ fp) : Moves fp w w' :=
  ⟨h.os, h.tape, h.output, h.size, fun k hk hn => h.block k hk (fun e => hn (hr k e.symm))⟩
theorem Moves.trans {fp fq : List Nat} {w w1 w2 : World} (h : Moves fp w w1) (k : Moves fq w1 w2) (hq : ∀ x ∈ fq, x ∈ fp ∨ w.heap.size ≤ x) : Moves fp w w2 :=
  ⟨k.os.trans h.os, k.tape.trans h.tape, k.output.trans h.output, Nat.le_trans h.size k.size, fun i hi hn => (k.block i (Nat.lt_of_lt_of_le hi h.size) (fun hm => by
    rcases hq i hm with h1 | h1
    · exact hn h1
    · omega)).trans (h.block i hi hn)⟩
theorem Moves.then {fp : List Nat} {w w1 w2 : World} (h : Moves fp w w1) (k : Moves fp w1 w2) : Moves fp w w2 := h.trans k (fun _ hx => .inl hx)
theorem Moves.mono {fp fq : List Nat} {w w1 : World} (h : Moves fp w w1) (hs : ∀ x ∈ fp, x ∈ fq ∨ w.heap.size ≤ x) : Moves fq w w1 := (Moves.refl fq w).trans h hs
theorem Moves.below {fp : List Nat} {B : Nat} {w0 w w' : World} (h0 : Below B w0 w) (h : Moves fp w w') (hfp : ∀ x ∈ fp, B ≤ x) (hB : B ≤ w.heap.size) : Below B w0 w' :=
  h0.trans ⟨h.os, h.tape, h.output, h.size, fun k hk => h.block k (by omega) (fun hm => by have := hfp k hm; omega)⟩
theorem Moves.set (w : World) (g j : Nat) (u : Value) {fp : List Nat} (hg : g ∈ fp) : Moves fp w (w.setCell ⟨g, j, none⟩ u) :=
  ⟨rfl, rfl, rfl, by simp, fun k _ hn => Below.heap_setCell w ⟨g, j, none⟩ u k (fun e => hn (by rw [e]; exact hg))⟩
theorem Moves.cell {fp : List Nat} {w w' : World} (h : Moves fp w w') {a : Addr} {v : Value} (hc : w.cell? a = some v) (hn : a.block ∉ fp) : w'.cell? a = some v :=
  (World.cell?_of_block (h.block a.block (World.block_lt_of_cell? w a hc) hn)).trans hc
theorem Moves.alloc (fp : List Nat) (w : World) (o : Obj) : Moves fp w (w.alloc o) := Moves.of_below fp ((Below.refl _ w).alloc (Nat.le_refl _) o)
theorem Moves.drew (fp : List Nat) (w : World) : Moves fp w w.drew := Moves.of_below fp (Below.refl _ w).drew
end Go.Proofs.Ytkfpeffiphdhmaa
