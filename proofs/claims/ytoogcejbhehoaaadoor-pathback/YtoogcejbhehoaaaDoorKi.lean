/- Rows of texts: a row of one's own that is appended to; a row that is only read. -/
import Derived.Test.YtoogcejbhehoaaaDoorSh
import Derived.Test.YtoogcejbhehoaaaDoorMr
import Derived.WalkKit
import Derived.ProofKit
import Derived.OpenShut
import Derived.WalkLawsBesides
import Derived.WalkSpells
import Derived.WalkMore
import Derived.Outline
import Derived.Deep.AppendLies
import Derived.BigFrame
import Derived.BigQuiet
import Derived.Lib.OthersKept
namespace Go.Proofs.YtoogcejbhehoaaaDoor
open Go.ChangeShapes Go.WideShapes Go.ChangeAt Go.RowKit

theorem hide {p : Prop} (h : p) : Hid p := h
theorem unhide {p : Prop} (h : Hid p) : p := h
theorem ret_int {k : IntKind} {a b : Int} (h : a = b) : Ending.returned (.int k a) = .returned (.int k b) := by rw [h]
theorem below_then {W w1 w2 : World} (h : Below W.heap.size W w1) (k : Below w1.heap.size w1 w2) : Below W.heap.size W w2 := h.trans (k.mono h.size)
theorem b_alloc (w : World) (o : Obj) : Below w.heap.size w (w.alloc o) := (Below.refl _ _).alloc (Nat.le_refl _) _

theorem full_of {s : ByteArray} (h : bs s ≠ []) : s.toList.isEmpty = false := by
  rw [ByteArray.toList_eq, List.isEmpty_eq_false_iff]
  exact h
theorem str_ne {A B : ByteArray} (h : ¬ A = B) : (A.toList == B.toList) = false := beq_eq_false_iff_ne.2 (fun e => h (by
  rw [ByteArray.toList_eq, ByteArray.toList_eq] at e
  exact ByteArray.ext (Array.toList_inj.1 e)))
theorem toList_bs (s : ByteArray) : s.toList = bs s := ByteArray.toList_eq s

theorem info9 : (Tryd.prog.info? 9).map (fun i => (i.zero, i.size, i.bytes)) = some (some (.string ⟨#[]⟩), 1, 16) := by kernel_rfl

def cells (l : List (List UInt8)) : List Value := l.map fun x => Value.string (tx x)
theorem cells_length (l : List (List UInt8)) : (cells l).length = l.length := by simp [cells]
theorem cells_append (l r : List (List UInt8)) : cells (l ++ r) = cells l ++ cells r := by simp [cells]

/-- texts of one's own -/
def Own (base : Nat) (w : World) (v : Value) (l : List (List UInt8)) : Prop := w.ownsRow base 9 1 v l.length (cells l)
theorem Own.nil (base : Nat) (w : World) : Own base w (.slice none 0 0) [] := World.ownsRow_nil _ _ _ _
theorem Own.below {base : Nat} {w w' : World} {v : Value} {l : List (List UInt8)} (h : Own base w v l) (hb : Below w.heap.size w w') : Own base w' v l :=
  World.ownsRow.kept h (row := none) ⟨hb.os, hb.tape, hb.output, hb.size, fun k hk _ => hb.block k hk⟩ (by cases v.ownBlock <;> simp)
theorem Own.iterAt {base : Nat} {w : World} {v : Value} {l : List (List UInt8)} (h : Own base w v l) {k : Nat} (hk : k < base) (s : ByteArray) (pos : Nat) : Own base (w.iterAt k s pos) v l := by
  refine ⟨h.1, ?_⟩
  rcases h.2 with hn | ⟨g, cap, cur, rfl, hb, hgg, rest⟩
  · exact .inl hn
  · refine .inr ⟨g, cap, cur, rfl, hb, ?_, rest⟩
    rw [Lib.iterAt_other _ _ _ _ _ (by omega)]
    exact hgg
theorem Own.form {base : Nat} {w : World} {v : Value} {l : List (List UInt8)} (h : Own base w v l) : ∃ a cap, v = .slice a l.length cap := by
  rcases h.2 with ⟨hv, hn⟩ | ⟨g, cap, cur, e, _⟩
  · exact ⟨none, 0, by rw [hv, hn]⟩
  · exact ⟨_, _, e⟩

/-- texts that are only read -/
def Ls (w : World) (a : Option Addr) (l : List (List UInt8)) : Prop := l.length ≤ 9223372036854775807 ∧ (l.length = 0 ∨ ∃ b off, a = some ⟨b, off, none⟩ ∧ b < w.heap.size ∧ ∀ i, i < l.length → w.cell? ⟨b, off + i, none⟩ = some (.string (tx (l.getD i []))))
theorem Ls.nil (w : World) (a : Option Addr) : Ls w a [] := ⟨by simp, .inl rfl⟩
theorem Ls.below {w w' : World} {a : Option Addr} {l : List (List UInt8)} (h : Ls w a l) (hb : Below w.heap.size w w') : Ls w' a l := by
  refine ⟨h.1, ?_⟩
  rcases h.2 with h0 | ⟨b, off, rfl, hlt, hc⟩
  · exact .inl h0
  · exact .inr ⟨b, off, rfl, Nat.lt_of_lt_of_le hlt hb.size, fun i hi => (hb.cell hlt).trans (hc i hi)⟩
theorem Own.ls {base : Nat} {w : World} {a : Option Addr} {n cap : Nat} {l : List (List UInt8)} (h : Own base w (.slice a n cap) l) (hl : l.length ≤ 9223372036854775807) : Ls w a l := by
  refine ⟨hl, ?_⟩
  by_cases h0 : l.length = 0
  · exact .inl h0
  · rcases h.2 with ⟨_, hn⟩ | ⟨g, cap', cur, e, _, hg, _⟩
    · exact absurd hn h0
    · injection e with e1 e2 e3
      subst e1 e2 e3
      refine .inr ⟨g, 0, rfl, (Array.getElem?_eq_some_iff.1 hg).1, fun i hi => ?_⟩
      have := World.ownsRow.cellAt h i (by omega)
      rw [Nat.zero_add, this]
      simp [cells, hi]

/-- append of one text to what is one's own, as the walk meets it: the text stands in a new block; a block below the row stays -/
theorem app_one {ops : Array Oper} {rest : List Oper} {o : Oper} {a : Act} {Q : Exit → Act → World → Prop} {B : Nat} {wr : World} {v : Value} {l : List (List UInt8)} {x : ByteArray}
    (hwant : Region.wanted o (yielded ops a.tmps) = true) (s y : Operand) (ho : o.op = .call { callee := .builtin .append, args := #[s, y], argTypes := #[23, 23] })
    (hs : a.eval s = v) (hx : a.eval y = .slice (some ⟨wr.heap.size, 0, none⟩) 1 1) (hB : B ≤ wr.heap.size) (hown : Own B wr v l) (hlen : l.length ≤ 1000000)
    (h : ∀ a' cap' w', Own B w' (.slice a' (l.length + 1) cap') (l ++ [bs x]) → Below B wr w' → wpList Tryd.prog ops Q rest (a.put o.dst (.slice a' (l.length + 1) cap')) w') :
    wpList Tryd.prog ops Q (o :: rest) a (wr.alloc (.cells #[.string x] 9)) := by
  obtain ⟨i0, hi, hz0, hz1, hz2⟩ := info_parts info9
  obtain ⟨v', w', hr, ho', hg, _⟩ := run_append_own (P := Tryd.prog) (wr.alloc (.cells #[.string x] 9)) B 23 o.type 9 i0 (.string ⟨#[]⟩) 1 16 Tryd.underlying23 hi hz0 hz1 hz2 rfl (by decide) v l.length (cells l) (World.ownsRow.alloc hown _) ⟨wr.heap.size, 0, none⟩ 1 1 [.string x] rfl
    (fun j u hj => by
      match j, hj with
      | 0, hj => simp at hj; subst hj; simp [Addr.add])
    (fun u hu => by simp at hu; subst hu; rfl) (by unfold maxLen; omega) (by omega) (by simp; omega)
  have hform : ∃ a' cap', v' = .slice a' (l.length + 1) cap' := by
    rcases ho'.2 with ⟨_, hn⟩ | ⟨g, cap, cur, e, _⟩
    · omega
    · exact ⟨_, _, e⟩
  obtain ⟨a', cap', rfl⟩ := hform
  have ho2 : Own B w' (.slice a' (l.length + 1) cap') (l ++ [bs x]) := by
    unfold Own
    rw [List.length_append, cells_append, show cells [bs x] = [Value.string x] by simp [cells, tx_bs]]
    exact ho'
  have hb2 : Below B wr w' := by
    refine ((Below.refl B wr).alloc hB (.cells #[.string x] 9)).grown hg (by simp; omega) ?_
    intro k hk
    exact (World.ownsRow.lt hown k hk).1
  refine BigFrame.wpList_want hwant fun K hK => ?_
  unfold Oper.wp execOp
  simp only [ho, resolve, invoke, builtin, Sem.run_bind, Sem.run_pure, Result.andThen_ok, List.map_toArray, List.map_cons, List.map_nil, hs, hx, hr]
  exact hK _ _ (h a' cap' w' ho2 hb2)
end Go.Proofs.YtoogcejbhehoaaaDoor
