/- What the document's Split makes in each round: steps of statements that leave their order open. -/
import Derived.Test.YtepkifledonldaaSpliti
import Derived.Test.YtepkifledonldaaRefenc
import Derived.Deep.DeepCutAuto
namespace Go.Proofs.Ytepkifledonldaa
open Go.ChangeShapes Go.WideShapes Go.ChangeAt Go.RowKit

theorem pairs_one {β : Type} {sv : β → Value} (hsv : ∀ x, (sv x).oneCell' = true) (l : List (ByteArray × β)) : ∀ u ∈ pairs sv l, u.oneCell' = true := by
  intro u hu
  obtain ⟨x, _, h⟩ := List.mem_flatMap.1 hu
  exact pair_one (hsv x.2) u h
/-- what has become of the world behind an append to a new empty row -/
structure Went (w w1 w2 : World) (e : TypeId) (v : Value) (n : Nat) (xs : List Value) (g : Nat) : Prop where
  own : w2.ownsRow w.heap.size e 2 v n xs
  grown : w1.grownBy w2 (some g)
  kind : w1.heap[g]? = some (.cells #[] e (0, 0))
  low : w.heap.size ≤ g
theorem Went.other {w w1 w2 : World} {e : TypeId} {v : Value} {n : Nat} {xs : List Value} {g : Nat} (h : Went w w1 w2 e v n xs g) {g2 : Nat} {e2 : TypeId} {c2 : Array Value} (h2 : w1.heap[g2]? = some (.cells c2 e2 (0, 0))) (hne : e ≠ e2) : w2.heap[g2]? = some (.cells c2 e2 (0, 0)) := by
  refine (h.grown.block g2 (Array.getElem?_eq_some_iff.1 h2).1 (fun e1 => ?_)).trans h2
  have e2' := Option.some.inj e1
  subst e2'
  rw [h.kind] at h2
  simp at h2
  exact hne h2.2
theorem Went.row {w w1 w2 : World} {e : TypeId} {v : Value} {n : Nat} {xs : List Value} {g : Nat} (h : Went w w1 w2 e v n xs g) {e' : TypeId} (hne : e ≠ e') {B' size' n' : Nat} {v' : Value} {xs' : List Value} (h' : w1.ownsRow B' e' size' v' n' xs') : w2.ownsRow B' e' size' v' n' xs' :=
  keepKind (emptyRow (size := 2) h.kind h.low) h.grown hne h'
theorem Went.below {w w1 w2 : World} {e : TypeId} {v : Value} {n : Nat} {xs : List Value} {g : Nat} (h : Went w w1 w2 e v n xs g) (hb : Below w.heap.size w w1) : Below w.heap.size w w2 :=
  hb.grown h.grown hb.size (fun k hk => by cases hk; exact h.low)
theorem heapNew {w : World} {o : Obj} {g : Nat} (h : g = w.heap.size) : (w.alloc o).heap[g]? = some o := by
  subst h
  show (w.heap.push o)[w.heap.size]? = _
  rw [Array.getElem?_push, if_pos rfl]
theorem heapNew2 {w : World} {o o2 : Obj} {g : Nat} (h : g = w.heap.size) : ((w.alloc o).alloc o2).heap[g]? = some o := by
  subst h
  rw [Below.heap_alloc _ _ _ (by simp)]
  exact heapNew rfl
theorem step_its {ops : Array Oper} {o : Oper} {a : Act} {K : Act → World → Prop} {Q : Exit → Act → World → Prop} {E : Prop} {w w1 : World} {g B0 : Nat} {src : Value} {l : List It} (hsrc : OwnE Value.string 47 B0 w src l) (hl : l.length ≤ 1100)
    (hgd : o.guard = none) (s x : Operand) (ho : o.op = .call { callee := .builtin .append, args := #[s, x], argTypes := #[22, 22] }) (hs : a.eval s = .slice (some ⟨g, 0, none⟩) 0 0) (hx : a.eval x = src)
    (hb : Below w.heap.size w w1) (hk : w1.heap[g]? = some (.cells #[] 47 (0, 0))) (hlow : w.heap.size ≤ g)
    (hK : ∀ a' cap' w2, Went w w1 w2 47 (.slice a' l.length cap') l.length (pairs Value.string l) g → K (a.put o.dst (.slice a' l.length cap')) w2) :
    if Region.wanted o (yielded ops a.tmps) = true then Oper.wp Try.prog o a w1 K Q else E := by
  refine step_src (z := .agg #[.string ByteArray.empty, .string ByteArray.empty]) (n := 0) (xs := []) hgd Try.underlying22 info47 rfl (by decide) s x ho hs hx (emptyRow hk hlow) (ownsRow_base (ownsRow_same hsrc (fun g hg => hb.block g (World.ownsRow.lt hsrc g hg).2)) (Nat.zero_le _)) (pairs_one (fun _ => rfl) l) (by omega) (by omega) hb.size ?_
  intro v' w' h1 h2 _
  rw [Nat.zero_add, List.nil_append] at h1
  obtain ⟨a', cap', rfl⟩ := ownsRow_form h1
  exact hK a' cap' w' ⟨h1, h2, hk, hlow⟩
theorem step_kds {ops : Array Oper} {o : Oper} {a : Act} {K : Act → World → Prop} {Q : Exit → Act → World → Prop} {E : Prop} {w w1 : World} {g B0 : Nat} {src : Value} {l : List Kd} (hsrc : OwnE kv 49 B0 w src l) (hl : l.length ≤ 1100)
    (hgd : o.guard = none) (s x : Operand) (ho : o.op = .call { callee := .builtin .append, args := #[s, x], argTypes := #[23, 23] }) (hs : a.eval s = .slice (some ⟨g, 0, none⟩) 0 0) (hx : a.eval x = src)
    (hb : Below w.heap.size w w1) (hk : w1.heap[g]? = some (.cells #[] 49 (0, 0))) (hlow : w.heap.size ≤ g)
    (hK : ∀ a' cap' w2, Went w w1 w2 49 (.slice a' l.length cap') l.length (pairs kv l) g → K (a.put o.dst (.slice a' l.length cap')) w2) :
    if Region.wanted o (yielded ops a.tmps) = true then Oper.wp Try.prog o a w1 K Q else E := by
  refine step_src (z := .agg #[.string ByteArray.empty, .int .i64 0]) (n := 0) (xs := []) hgd Try.underlying23 info49 rfl (by decide) s x ho hs hx (emptyRow hk hlow) (ownsRow_base (ownsRow_same hsrc (fun g hg => hb.block g (World.ownsRow.lt hsrc g hg).2)) (Nat.zero_le _)) (pairs_one (fun _ => rfl) l) (by omega) (by omega) hb.size ?_
  intro v' w' h1 h2 _
  rw [Nat.zero_add, List.nil_append] at h1
  obtain ⟨a', cap', rfl⟩ := ownsRow_form h1
  exact hK a' cap' w' ⟨h1, h2, hk, hlow⟩
/-- the two lists of a node of one's own -/
structure Two (Z : Nat) (w : World) (ai : Option Addr) (its : List It) (ci : Nat) (ak : Option Addr) (kds : List Kd) (ck : Nat) : Prop where
  i : OwnE Value.string 47 Z w (.slice ai its.length ci) its
  k : OwnE kv 49 Z w (.slice ak kds.length ck) kds
theorem Two.below {Z : Nat} {w w' : World} {ai ak : Option Addr} {its : List It} {kds : List Kd} {ci ck : Nat} (h : Two Z w ai its ci ak kds ck) (hb : Below w.heap.size w w') : Two Z w' ai its ci ak kds ck := ⟨h.i.below hb, h.k.below hb⟩
theorem Two.base {Z Z' : Nat} {w : World} {ai ak : Option Addr} {its : List It} {kds : List Kd} {ci ck : Nat} (h : Two Z w ai its ci ak kds ck) (hz : Z' ≤ Z) : Two Z' w ai its ci ak kds ck := ⟨h.i.base hz, h.k.base hz⟩
theorem Two.set {Z q j : Nat} {w : World} {ai ak : Option Addr} {its : List It} {kds : List Kd} {ci ck : Nat} {lf : Bool} {bi bk : Option Addr} {il di kl dk : Nat} (h : Two Z w ai its ci ak kds ck) (hq : Nblk w q lf bi il di bk kl dk) (u : Value) : Two Z (w.setCell ⟨q, j, none⟩ u) ai its ci ak kds ck := ⟨h.i.set hq (by decide) j u, h.k.set hq (by decide) j u⟩
/-- the new node, of which more is to come -/
def Made (w : World) (m : Nat) (lf : Bool) (its : List It) (kds : List Kd) (w' : World) : Prop := ∃ ai ci ak ck, Nblk w' m lf ai its.length ci ak kds.length ck ∧ Two w.heap.size w' ai its ci ak kds ck ∧ Below w.heap.size w w' ∧ w.heap.size ≤ m
theorem Made.mk {w wE : World} {lf : Bool} {its : List It} {kds : List Kd} {ai ak : Option Addr} {ci ck : Nat} (hb : Below w.heap.size w wE) (hi : wE.ownsRow w.heap.size 47 2 (.slice ai its.length ci) its.length (pairs Value.string its)) (hk : wE.ownsRow w.heap.size 49 2 (.slice ak kds.length ck) kds.length (pairs kv kds)) :
    Made w wE.heap.size lf its kds (wE.alloc (.cells #[.bool lf, .slice ai its.length ci, .slice ak kds.length ck] 25)) :=
  ⟨ai, ci, ak, ck, Nblk.new _ _ _ _ _ _ _ _, ⟨hi.alloc _, hk.alloc _⟩, hb.alloc hb.size _, hb.size⟩
end Go.Proofs.Ytepkifledonldaa
