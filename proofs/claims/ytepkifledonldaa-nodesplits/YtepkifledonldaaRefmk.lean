/- What a round's first statement has made so far, in whatever order. -/
import Derived.Test.YtepkifledonldaaSpliti
import Derived.Test.YtepkifledonldaaRefenc
import Derived.Deep.DeepCutAuto
namespace Go.Proofs.Ytepkifledonldaa
open Go.ChangeShapes Go.WideShapes Go.ChangeAt Go.RowKit

/- What the document's Split makes in each round: steps of statements that leave their order open. -/
theorem pairs_one {β : Type} {sv : β → Value} (hsv : ∀ x, (sv x).oneCell' = true) (l : List (ByteArray × β)) : ∀ u ∈ pairs sv l, u.oneCell' = true := by
  intro u hu
  obtain ⟨x, _, h⟩ := List.mem_flatMap.1 hu
  exact pair_one (hsv x.2) u h
/-- what has become of the world behind an append to a new empty row -/
structure Went (w w1 w2 : World) (e : TypeId) (v : Value) (n : Nat) (xs : List Value) (g : Nat) : Prop where
  own : w2.ownsRow w.heap.size e 2 v n xs
  grown : w1.grownBy w2 (some g)
  kind : w1.heap[g]? = some (.cells #[] e (0, 0))
  low : w.heap.size ≤ g
theorem Went.other {w w1 w2 : World} {e : TypeId} {v : Value} {n : Nat} {xs : List Value} {g : Nat} (h : Went w w1 w2 e v n xs g) {g2 : Nat} {e2 : TypeId} {c2 : Array Value} (h2 : w1.heap[g2]? = some (.cells c2 e2 (0, 0))) (hne : e ≠ e2) : w2.heap[g2]? = some (.cells c2 e2 (0, 0)) := by
  refine (h.grown.block g2 (Array.getElem?_eq_some_iff.1 h2).1 (fun e1 => ?_)).trans h2
  have e2' := Option.some.inj e1
  subst e2'
  rw [h.kind] at h2
  simp at h2
  exact hne h2.2
theorem Went.row {w w1 w2 : World} {e : TypeId} {v : Value} {n : Nat} {xs : List Value} {g : Nat} (h : Went w w1 w2 e v n xs g) {e' : TypeId} (hne : e ≠ e') {B' size' n' : Nat} {v' : Value} {xs' : List Value} (h' : w1.ownsRow B' e' size' v' n' xs') : w2.ownsRow B' e' size' v' n' xs' :=
  keepKind (emptyRow (size := 2) h.kind h.low) h.grown hne h'
theorem Went.below {w w1 w2 : World} {e : TypeId} {v : Value} {n : Nat} {xs : List Value} {g : Nat} (h : Went w w1 w2 e v n xs g) (hb : Below w.heap.size w w1) : Below w.heap.size w w2 :=
  hb.grown h.grown hb.size (fun k hk => by cases hk; exact h.low)
theorem heapNew {w : World} {o : Obj} {g : Nat} (h : g = w.heap.size) : (w.alloc o).heap[g]? = some o := by
  subst h
  show (w.heap.push o)[w.heap.size]? = _
  rw [Array.getElem?_push, if_pos rfl]
theorem heapNew2 {w : World} {o o2 : Obj} {g : Nat} (h : g = w.heap.size) : ((w.alloc o).alloc o2).heap[g]? = some o := by
  subst h
  rw [Below.heap_alloc _ _ _ (by simp)]
  exact heapNew rfl
theorem step_its {ops : Array Oper} {o : Oper} {a : Act} {K : Act → World → Prop} {Q : Exit → Act → World → Prop} {E : Prop} {w w1 : World} {g B0 : Nat} {src : Value} {l : List It} (hsrc : OwnE Value.string 47 B0 w src l) (hl : l.length ≤ 1100)
    (hgd : o.guard = none) (s x : Operand) (ho : o.op = .call { callee := .builtin .append, args := #[s, x], argTypes := #[22, 22] }) (hs : a.eval s = .slice (some ⟨g, 0, none⟩) 0 0) (hx : a.eval x = src)
    (hb : Below w.heap.size w w1) (hk : w1.heap[g]? = some (.cells #[] 47 (0, 0))) (hlow : w.heap.size ≤ g)
    (hK : ∀ a' cap' w2, Went w w1 w2 47 (.slice a' l.length cap') l.length (pairs Value.string l) g → K (a.put o.dst (.slice a' l.length cap')) w2) :
    if Region.wanted o (yielded ops a.tmps) = true then Oper.wp Try.prog o a w1 K Q else E := by
  refine step_src (z := .agg #[.string ByteArray.empty, .string ByteArray.empty]) (n := 0) (xs := []) hgd Try.underlying22 info47 rfl (by decide) s x ho hs hx (emptyRow hk hlow) (ownsRow_base (ownsRow_same hsrc (fun g hg => hb.block g (World.ownsRow.lt hsrc g hg).2)) (Nat.zero_le _)) (pairs_one (fun _ => rfl) l) (by omega) (by omega) hb.size ?_
  intro v' w' h1 h2 _
  rw [Nat.zero_add, List.nil_append] at h1
  obtain ⟨a', cap', rfl⟩ := ownsRow_form h1
  exact hK a' cap' w' ⟨h1, h2, hk, hlow⟩
theorem step_kds {ops : Array Oper} {o : Oper} {a : Act} {K : Act → World → Prop} {Q : Exit → Act → World → Prop} {E : Prop} {w w1 : World} {g B0 : Nat} {src : Value} {l : List Kd} (hsrc : OwnE kv 49 B0 w src l) (hl : l.length ≤ 1100)
    (hgd : o.guard = none) (s x : Operand) (ho : o.op = .call { callee := .builtin .append, args := #[s, x], argTypes := #[23, 23] }) (hs : a.eval s = .slice (some ⟨g, 0, none⟩) 0 0) (hx : a.eval x = src)
    (hb : Below w.heap.size w w1) (hk : w1.heap[g]? = some (.cells #[] 49 (0, 0))) (hlow : w.heap.size ≤ g)
    (hK : ∀ a' cap' w2, Went w w1 w2 49 (.slice a' l.length cap') l.length (pairs kv l) g → K (a.put o.dst (.slice a' l.length cap')) w2) :
    if Region.wanted o (yielded ops a.tmps) = true then Oper.wp Try.prog o a w1 K Q else E := by
  refine step_src (z := .agg #[.string ByteArray.empty, .int .i64 0]) (n := 0) (xs := []) hgd Try.underlying23 info49 rfl (by decide) s x ho hs hx (emptyRow hk hlow) (ownsRow_base (ownsRow_same hsrc (fun g hg => hb.block g (World.ownsRow.lt hsrc g hg).2)) (Nat.zero_le _)) (pairs_one (fun _ => rfl) l) (by omega) (by omega) hb.size ?_
  intro v' w' h1 h2 _
  rw [Nat.zero_add, List.nil_append] at h1
  obtain ⟨a', cap', rfl⟩ := ownsRow_form h1
  exact hK a' cap' w' ⟨h1, h2, hk, hlow⟩
/-- the two lists of a node of one's own -/
structure Two (Z : Nat) (w : World) (ai : Option Addr) (its : List It) (ci : Nat) (ak : Option Addr) (kds : List Kd) (ck : Nat) : Prop where
  i : OwnE Value.string 47 Z w (.slice ai its.length ci) its
  k : OwnE kv 49 Z w (.slice ak kds.length ck) kds
theorem Two.below {Z : Nat} {w w' : World} {ai ak : Option Addr} {its : List It} {kds : List Kd} {ci ck : Nat} (h : Two Z w ai its ci ak kds ck) (hb : Below w.heap.size w w') : Two Z w' ai its ci ak kds ck := ⟨h.i.below hb, h.k.below hb⟩
theorem Two.base {Z Z' : Nat} {w : World} {ai ak : Option Addr} {its : List It} {kds : List Kd} {ci ck : Nat} (h : Two Z w ai its ci ak kds ck) (hz : Z' ≤ Z) : Two Z' w ai its ci ak kds ck := ⟨h.i.base hz, h.k.base hz⟩
theorem Two.set {Z q j : Nat} {w : World} {ai ak : Option Addr} {its : List It} {kds : List Kd} {ci ck : Nat} {lf : Bool} {bi bk : Option Addr} {il di kl dk : Nat} (h : Two Z w ai its ci ak kds ck) (hq : Nblk w q lf bi il di bk kl dk) (u : Value) : Two Z (w.setCell ⟨q, j, none⟩ u) ai its ci ak kds ck := ⟨h.i.set hq (by decide) j u, h.k.set hq (by decide) j u⟩
/-- the new node, of which more is to come -/
def Made (w : World) (m : Nat) (lf : Bool) (its : List It) (kds : List Kd) (w' : World) : Prop := ∃ ai ci ak ck, Nblk w' m lf ai its.length ci ak kds.length ck ∧ Two w.heap.size w' ai its ci ak kds ck ∧ Below w.heap.size w w' ∧ w.heap.size ≤ m
theorem Made.mk {w wE : World} {lf : Bool} {its : List It} {kds : List Kd} {ai ak : Option Addr} {ci ck : Nat} (hb : Below w.heap.size w wE) (hi : wE.ownsRow w.heap.size 47 2 (.slice ai its.length ci) its.length (pairs Value.string its)) (hk : wE.ownsRow w.heap.size 49 2 (.slice ak kds.length ck) kds.length (pairs kv kds)) :
    Made w wE.heap.size lf its kds (wE.alloc (.cells #[.bool lf, .slice ai its.length ci, .slice ak kds.length ck] 25)) :=
  ⟨ai, ci, ak, ck, Nblk.new _ _ _ _ _ _ _ _, ⟨hi.alloc _, hk.alloc _⟩, hb.alloc hb.size _, hb.size⟩
/- The two new nodes of a round of the document's Split. -/
theorem Nblk.off {w : World} {p q j : Nat} {L : Bool} {ai ak : Option Addr} {il ci kl ck : Nat} (h : Nblk w p L ai il ci ak kl ck) (hne : p ≠ q) (u : Value) : Nblk (w.setCell ⟨q, j, none⟩ u) p L ai il ci ak kl ck :=
  (Below.heap_setCell w ⟨q, j, none⟩ u p hne).trans h
theorem Nblk.grown {w w' : World} {p : Nat} {L : Bool} {ai ak : Option Addr} {il ci kl ck : Nat} {g : Option Nat} (h : Nblk w p L ai il ci ak kl ck) (hg : w.grownBy w' g) (hne : g ≠ some p) : Nblk w' p L ai il ci ak kl ck :=
  (hg.block p h.lt (fun e => hne e.symm)).trans h
theorem OwnE.setq {β : Type} {sv : β → Value} {T : TypeId} {B : Nat} {w : World} {v : Value} {l : List (ByteArray × β)} (h : OwnE sv T B w v l) {q : Nat} (hq : q < B) (j : Nat) (u : Value) : OwnE sv T B (w.setCell ⟨q, j, none⟩ u) v l :=
  ownsRow_same h (fun g hg => Below.heap_setCell w ⟨q, j, none⟩ u g (by have := (World.ownsRow.lt h g hg).1; show g ≠ q; omega))
theorem OwnP.setq {β : Type} {sv : β → Value} {T : TypeId} {pc : Pt β → List Value} {B : Nat} {w : World} {v : Value} {ps : List (Pt β)} (h : OwnP sv T pc B w v ps) {q : Nat} (hq : q < B) (j : Nat) (u : Value) : OwnP sv T pc B (w.setCell ⟨q, j, none⟩ u) v ps :=
  ⟨ownsRow_same h.row (fun g hg => Below.heap_setCell w ⟨q, j, none⟩ u g (by have := (World.ownsRow.lt h.row g hg).1; show g ≠ q; omega)), fun x hx => (h.its x hx).setq hq j u⟩
theorem Nblk.set3 {w : World} {p : Nat} {L : Bool} {ai ak : Option Addr} {il ci kl ck : Nat} (h : Nblk w p L ai il ci ak kl ck) (L' : Bool) (a : Option Addr) (n c : Nat) (a2 : Option Addr) (n2 c2 : Nat) :
    Nblk (((w.setCell ⟨p, 0, none⟩ (.bool L')).setCell ⟨p, 1, none⟩ (.slice a n c)).setCell ⟨p, 2, none⟩ (.slice a2 n2 c2)) p L' a n c a2 n2 c2 := ((h.set0 L').set1 a n c).set2 a2 n2 c2
def DuoI (wr : World) (m la : Nat) (l1 l2 : List It) (w : World) : Prop := ∃ a1 c1 b1 d1 a2 c2, Nblk w m true a1 l1.length c1 b1 0 d1 ∧ Two wr.heap.size w a1 l1 c1 b1 [] d1 ∧ Nblk w la true a2 l2.length c2 none 0 0 ∧ OwnE Value.string 47 wr.heap.size w (.slice a2 l2.length c2) l2 ∧ Below wr.heap.size wr w ∧ wr.heap.size ≤ m ∧ wr.heap.size ≤ la ∧ m ≠ la ∧ (l2 = [] → a2 = none ∧ c2 = 0)
theorem DuoI.start {wr w : World} {m : Nat} {l : List It} (h : Made wr m true l [] w) : DuoI wr m w.heap.size l [] (w.alloc (.cells #[.bool true, .slice none 0 0, .slice none 0 0] 25)) := by
  obtain ⟨ai, ci, ak, ck, h1, h2, h3, h4⟩ := h
  have hb := below_alloc w (.cells #[.bool true, .slice none 0 0, .slice none 0 0] 25)
  exact ⟨_, _, _, _, none, 0, h1.below hb, h2.below hb, Nblk.new w true none none 0 0 0 0, World.ownsRow_nil _ _ _ _, h3.alloc h3.size _, h4, h3.size, Nat.ne_of_lt h1.lt, fun _ => ⟨rfl, rfl⟩⟩
variable {wr w w' : World} {m la c1 d1 : Nat} {a1 b1 : Option Addr} {l1 : List It}
theorem DuoI.kept (t1 : Two wr.heap.size w a1 l1 c1 b1 [] d1) {p : Nat} {L : Bool} {ai ak : Option Addr} {il ci kl ck : Nat} (h : Nblk w p L ai il ci ak kl ck) (hg : w.grownBy w' (Value.slice a1 l1.length c1).ownBlock) : Nblk w' p L ai il ci ak kl ck :=
  h.grown hg (t1.i.other h (by decide))
theorem DuoI.grow1 {a' : Option Addr} {cap' : Nat} {key : ByteArray} {val : ByteArray} (n1 : Nblk w m true a1 l1.length c1 b1 0 d1) (t1 : Two wr.heap.size w a1 l1 c1 b1 [] d1) (n2 : Nblk w la true none 0 0 none 0 0) (hb : Below wr.heap.size wr w) (hm : wr.heap.size ≤ m) (hla : wr.heap.size ≤ la) (hne : m ≠ la)
    (ho : w'.ownsRow wr.heap.size 47 2 (.slice a' (l1.length + 1) cap') (l1.length + 1) (pairs Value.string l1 ++ [.string key, Value.string val])) (hg : w.grownBy w' (Value.slice a1 l1.length c1).ownBlock) :
    DuoI wr m la (l1 ++ [(key, val)]) [] (w'.setCell ⟨m, 1, none⟩ (.slice a' (l1.length + 1) cap')) := by
  have n1' := DuoI.kept t1 n1 hg
  have n2' := DuoI.kept t1 n2 hg
  have k' : OwnE kv 49 wr.heap.size w' (.slice b1 0 d1) [] := keepKind t1.i hg (by decide) t1.k
  have i' : OwnE Value.string 47 wr.heap.size w' (.slice a' (l1.length + 1) cap') (l1 ++ [(key, val)]) := OwnE.snoc (x := (key, val)) ho
  have hl : (l1 ++ [(key, val)]).length = l1.length + 1 := by simp
  refine ⟨a', cap', b1, d1, none, 0, ?_, ?_, n2'.off (Ne.symm hne) _, World.ownsRow_nil _ _ _ _, (hb.grown hg hb.size (fun k hk => (World.ownsRow.lt t1.i k hk).1)).setCell hm _, hm, hla, hne, fun _ => ⟨rfl, rfl⟩⟩
  · rw [hl]
    exact n1'.set1 _ _ _
  · have X1 := i'.set n1' (by decide) 1 (.slice a' (l1.length + 1) cap')
    have X2 := k'.set n1' (by decide) 1 (.slice a' (l1.length + 1) cap')
    rw [← hl] at X1
    rw [← hl] at X2
    rw [← hl]
    exact ⟨X1, X2⟩
theorem DuoI.grow2 {a' : Option Addr} {cap' : Nat} {key : ByteArray} {val : ByteArray} (n1 : Nblk w m true a1 l1.length c1 b1 0 d1) (t1 : Two wr.heap.size w a1 l1 c1 b1 [] d1) (n2 : Nblk w la true none 0 0 none 0 0) (hb : Below wr.heap.size wr w) (hm : wr.heap.size ≤ m) (hla : wr.heap.size ≤ la) (hne : m ≠ la)
    (ho : w'.ownsRow wr.heap.size 47 2 (.slice a' (0 + 1) cap') (0 + 1) ([] ++ [.string key, Value.string val])) (hg : w.grownBy w' none) :
    DuoI wr m la l1 [(key, val)] (w'.setCell ⟨la, 1, none⟩ (.slice a' (0 + 1) cap')) := by
  have hbw : Below w.heap.size w w' := (Below.refl _ _).grown hg (Nat.le_refl _) (fun k hk => by cases hk)
  have n1' := n1.below hbw
  have n2' := n2.below hbw
  have t1' := t1.below hbw
  have i' : OwnE Value.string 47 wr.heap.size w' (.slice a' (0 + 1) cap') [(key, val)] := ho
  exact ⟨a1, c1, b1, d1, a', cap', n1'.off hne _, ⟨t1'.i.set n2' (by decide) 1 _, t1'.k.set n2' (by decide) 1 _⟩, n2'.set1 _ _ _, i'.set n2' (by decide) 1 _, (hb.grown hg hb.size (fun k hk => by cases hk)).setCell hla _, hm, hla, hne, (fun h => by cases h)⟩
def DuoK (wr : World) (m la : Nat) (l1 l2 : List Kd) (w : World) : Prop := ∃ a1 c1 b1 d1 a2 c2, Nblk w m false b1 0 d1 a1 l1.length c1 ∧ Two wr.heap.size w b1 [] d1 a1 l1 c1 ∧ Nblk w la false none 0 0 a2 l2.length c2 ∧ OwnE kv 49 wr.heap.size w (.slice a2 l2.length c2) l2 ∧ Below wr.heap.size wr w ∧ wr.heap.size ≤ m ∧ wr.heap.size ≤ la ∧ m ≠ la ∧ (l2 = [] → a2 = none ∧ c2 = 0)
theorem DuoK.start {wr w : World} {m : Nat} {l : List Kd} (h : Made wr m false [] l w) : DuoK wr m w.heap.size l [] (w.alloc (.cells #[.bool false, .slice none 0 0, .slice none 0 0] 25)) := by
  obtain ⟨ai, ci, ak, ck, h1, h2, h3, h4⟩ := h
  have hb := below_alloc w (.cells #[.bool false, .slice none 0 0, .slice none 0 0] 25)
  exact ⟨_, _, _, _, none, 0, h1.below hb, h2.below hb, Nblk.new w false none none 0 0 0 0, World.ownsRow_nil _ _ _ _, h3.alloc h3.size _, h4, h3.size, Nat.ne_of_lt h1.lt, fun _ => ⟨rfl, rfl⟩⟩
variable {wr w w' : World} {m la c1 d1 : Nat} {a1 b1 : Option Addr} {l1 : List Kd}
theorem DuoK.kept (t1 : Two wr.heap.size w b1 [] d1 a1 l1 c1) {p : Nat} {L : Bool} {ai ak : Option Addr} {il ci kl ck : Nat} (h : Nblk w p L ai il ci ak kl ck) (hg : w.grownBy w' (Value.slice a1 l1.length c1).ownBlock) : Nblk w' p L ai il ci ak kl ck :=
  h.grown hg (t1.k.other h (by decide))
theorem DuoK.grow1 {a' : Option Addr} {cap' : Nat} {key : ByteArray} {val : Int} (n1 : Nblk w m false b1 0 d1 a1 l1.length c1) (t1 : Two wr.heap.size w b1 [] d1 a1 l1 c1) (n2 : Nblk w la false none 0 0 none 0 0) (hb : Below wr.heap.size wr w) (hm : wr.heap.size ≤ m) (hla : wr.heap.size ≤ la) (hne : m ≠ la)
    (ho : w'.ownsRow wr.heap.size 49 2 (.slice a' (l1.length + 1) cap') (l1.length + 1) (pairs kv l1 ++ [.string key, kv val])) (hg : w.grownBy w' (Value.slice a1 l1.length c1).ownBlock) :
    DuoK wr m la (l1 ++ [(key, val)]) [] (w'.setCell ⟨m, 2, none⟩ (.slice a' (l1.length + 1) cap')) := by
  have n1' := DuoK.kept t1 n1 hg
  have n2' := DuoK.kept t1 n2 hg
  have k' : OwnE Value.string 47 wr.heap.size w' (.slice b1 0 d1) [] := keepKind t1.k hg (by decide) t1.i
  have i' : OwnE kv 49 wr.heap.size w' (.slice a' (l1.length + 1) cap') (l1 ++ [(key, val)]) := OwnE.snoc (x := (key, val)) ho
  have hl : (l1 ++ [(key, val)]).length = l1.length + 1 := by simp
  refine ⟨a', cap', b1, d1, none, 0, ?_, ?_, n2'.off (Ne.symm hne) _, World.ownsRow_nil _ _ _ _, (hb.grown hg hb.size (fun k hk => (World.ownsRow.lt t1.k k hk).1)).setCell hm _, hm, hla, hne, fun _ => ⟨rfl, rfl⟩⟩
  · rw [hl]
    exact n1'.set2 _ _ _
  · have X1 := i'.set n1' (by decide) 2 (.slice a' (l1.length + 1) cap')
    have X2 := k'.set n1' (by decide) 2 (.slice a' (l1.length + 1) cap')
    rw [← hl] at X1
    rw [← hl] at X2
    rw [← hl]
    exact ⟨X2, X1⟩
theorem DuoK.grow2 {a' : Option Addr} {cap' : Nat} {key : ByteArray} {val : Int} (n1 : Nblk w m false b1 0 d1 a1 l1.length c1) (t1 : Two wr.heap.size w b1 [] d1 a1 l1 c1) (n2 : Nblk w la false none 0 0 none 0 0) (hb : Below wr.heap.size wr w) (hm : wr.heap.size ≤ m) (hla : wr.heap.size ≤ la) (hne : m ≠ la)
    (ho : w'.ownsRow wr.heap.size 49 2 (.slice a' (0 + 1) cap') (0 + 1) ([] ++ [.string key, kv val])) (hg : w.grownBy w' none) :
    DuoK wr m la l1 [(key, val)] (w'.setCell ⟨la, 2, none⟩ (.slice a' (0 + 1) cap')) := by
  have hbw : Below w.heap.size w w' := (Below.refl _ _).grown hg (Nat.le_refl _) (fun k hk => by cases hk)
  have n1' := n1.below hbw
  have n2' := n2.below hbw
  have t1' := t1.below hbw
  have i' : OwnE kv 49 wr.heap.size w' (.slice a' (0 + 1) cap') [(key, val)] := ho
  exact ⟨a1, c1, b1, d1, a', cap', n1'.off hne _, ⟨t1'.i.set n2' (by decide) 2 _, t1'.k.set n2' (by decide) 2 _⟩, n2'.set2 _ _ _, i'.set n2' (by decide) 2 _, (hb.grown hg hb.size (fun k hk => by cases hk)).setCell hla _, hm, hla, hne, (fun h => by cases h)⟩
/- Where the document's Split stands, round by round. -/
structure StdI (w1 : World) (its : List It) (q k : Nat) (v : Value) (cur : List It) (ps : List (Pt ByteArray)) (a : Option Addr) (c : Nat) (b : Option Addr) (d : Nat) (wr : World) : Prop where
  one : Nblk wr q true a cur.length c b 0 d
  two : Two (q + 1) wr a cur c b [] d
  out : OwnP Value.string 47 pcI (q + 1) wr v ps
  bel : Below w1.heap.size w1 wr
  cut : Cut.parts itL [] its = ps.map (fun x => x.l) ++ Cut.parts itL cur (its.drop k)
  few : ps.length ≤ k
  cl : cur.length ≤ k
  my : ∀ x ∈ cur, mayI x = true
  low : w1.heap.size ≤ q
variable {w1 wr w4 w5 : World} {its cur : List It} {q k m la c d : Nat} {v v' : Value} {ps : List (Pt ByteArray)} {a b : Option Addr} {x : It}
theorem StdI.start (w1 : World) (its : List It) : StdI w1 its w1.heap.size 0 (.slice none 0 0) [] [] none 0 none 0 (w1.alloc (.cells #[.bool true, .slice none 0 0, .slice none 0 0] 25)) :=
  ⟨Nblk.new w1 true none none 0 0 0 0, ⟨World.ownsRow_nil _ _ _ _, World.ownsRow_nil _ _ _ _⟩, OwnP.nil, below_alloc _ _, rfl, Nat.le_refl _, Nat.le_refl _, (fun x hx => by cases hx), Nat.le_refl _⟩
theorem DuoI.below {l1 l2 : List It} {w w' : World} (h : DuoI wr m la l1 l2 w) (hb : Below w.heap.size w w') : DuoI wr m la l1 l2 w' := by
  obtain ⟨a1, c1, b1, d1, a2, c2, h1, h2, h3, h4, h5, h6⟩ := h
  exact ⟨a1, c1, b1, d1, a2, c2, h1.below hb, h2.below hb, h3.below hb, h4.below hb, below_then h5 hb, h6⟩
theorem StdI.cutoff {a2 : Option Addr} {c2 : Nat} (h : StdI w1 its q k v cur ps a c b d wr) (hx : its[k]? = some x) (hmy : mayI x = true) (big : 1007 < Cut.size itL (cur ++ [x])) (hb : Below wr.heap.size wr w4)
    (o2 : OwnE Value.string 47 wr.heap.size w4 (.slice a2 1 c2) [x]) (hg : w4.grownBy w5 v.ownBlock) (hr : w5.ownsRow (q + 1) 25 3 v' (ps.length + 1) (ps.flatMap pcI ++ pcI ⟨a, c, b, d, cur⟩)) :
    StdI w1 its q (k + 1) v' [x] (ps ++ [⟨a, c, b, d, cur⟩]) a2 c2 none 0 (((w5.setCell ⟨q, 0, none⟩ (.bool true)).setCell ⟨q, 1, none⟩ (.slice a2 1 c2)).setCell ⟨q, 2, none⟩ (.slice none 0 0)) := by
  have ho := h.out.below hb
  have hq : q < wr.heap.size := h.one.lt
  have n1 : Nblk w5 q true a cur.length c b 0 d := (h.one.below hb).grown hg (fun e => by have := (World.ownsRow.lt ho.row q e).1; omega)
  have hp := OwnP.snoc (x := ⟨a, c, b, d, cur⟩) ho (by decide) (h.two.i.below hb) hg hr
  have o5 : OwnE Value.string 47 (q + 1) w5 (.slice a2 1 c2) [x] := (o2.kept (by decide) ho hg).base hq
  have hbel : Below w1.heap.size w1 w5 := (h.bel.trans (hb.mono h.bel.size)).grown hg (Nat.le_trans h.bel.size hb.size) (fun g hgg => by have := (World.ownsRow.lt ho.row g hgg).1; have := h.low; omega)
  refine ⟨n1.set3 _ _ _ _ _ _ _, ⟨((o5.setq (Nat.lt_succ_self q) _ _).setq (Nat.lt_succ_self q) _ _).setq (Nat.lt_succ_self q) _ _, World.ownsRow_nil _ _ _ _⟩, ((hp.setq (Nat.lt_succ_self q) _ _).setq (Nat.lt_succ_self q) _ _).setq (Nat.lt_succ_self q) _ _, ((hbel.setCell (p := ⟨q, 0, none⟩) h.low _).setCell (p := ⟨q, 1, none⟩) h.low _).setCell (p := ⟨q, 2, none⟩) h.low _, ?_, ?_, ?_, ?_, h.low⟩
  · rw [h.cut, drop_get hx, Cut.parts, if_pos big, List.map_append]
    simp
  · have := h.few
    simp
    omega
  · simp
  · intro y hy
    simp at hy
    subst hy
    exact hmy
theorem StdI.goon {a1 b1 : Option Addr} {c1 d1 : Nat} (h : StdI w1 its q k v cur ps a c b d wr) (hx : its[k]? = some x) (hmy : mayI x = true) (big : ¬ 1007 < Cut.size itL (cur ++ [x])) (hb : Below wr.heap.size wr w4)
    (t1 : Two wr.heap.size w4 a1 (cur ++ [x]) c1 b1 [] d1) :
    StdI w1 its q (k + 1) v (cur ++ [x]) ps a1 c1 b1 d1 (((w4.setCell ⟨q, 0, none⟩ (.bool true)).setCell ⟨q, 1, none⟩ (.slice a1 (cur ++ [x]).length c1)).setCell ⟨q, 2, none⟩ (.slice b1 0 d1)) := by
  have ho := h.out.below hb
  have hq : q < wr.heap.size := h.one.lt
  have n1 := h.one.below hb
  have t2 := t1.base hq
  have hbel : Below w1.heap.size w1 w4 := h.bel.trans (hb.mono h.bel.size)
  refine ⟨n1.set3 _ _ _ _ _ _ _, ⟨((t2.i.setq (Nat.lt_succ_self q) _ _).setq (Nat.lt_succ_self q) _ _).setq (Nat.lt_succ_self q) _ _, ((t2.k.setq (Nat.lt_succ_self q) _ _).setq (Nat.lt_succ_self q) _ _).setq (Nat.lt_succ_self q) _ _⟩, ((ho.setq (Nat.lt_succ_self q) _ _).setq (Nat.lt_succ_self q) _ _).setq (Nat.lt_succ_self q) _ _, ((hbel.setCell (p := ⟨q, 0, none⟩) h.low _).setCell (p := ⟨q, 1, none⟩) h.low _).setCell (p := ⟨q, 2, none⟩) h.low _, ?_, ?_, ?_, ?_, h.low⟩
  · rw [h.cut, drop_get hx, Cut.parts, if_neg big]
  · have := h.few
    omega
  · have := h.cl
    simp
    omega
  · intro y hy
    rcases List.mem_append.1 hy with hy | hy
    · exact h.my y hy
    · simp at hy
      subst hy
      exact hmy
theorem bytes_szI (ai ak : Option Addr) (ci ck : Nat) (l : List It) (w : World) (hr : Row Value.string w ai l) (hl : l.length ≤ 1100) (hm : ∀ x ∈ l, mayI x = true) :
    Calls Try.prog 24 #[.agg #[.bool true, .slice ai l.length ci, .slice ak 0 ck]] w fun e w' => ∃ S : ByteArray, e = .returned (.string S) ∧ S.size = Cut.size itL l ∧ Below w.heap.size w w' :=
  (refBytesI ai ak ci ck l w hr hl hm).mono (fun e w' ⟨h1, h2⟩ => ⟨_, h1, by
    rw [strOf_size, List.length_cons, List.length_append]
    unfold Cut.size sz
    omega, h2⟩)
structure StdK (w1 : World) (its : List Kd) (q k : Nat) (v : Value) (cur : List Kd) (ps : List (Pt Int)) (a : Option Addr) (c : Nat) (b : Option Addr) (d : Nat) (wr : World) : Prop where
  one : Nblk wr q false b 0 d a cur.length c
  two : Two (q + 1) wr b [] d a cur c
  out : OwnP kv 49 pcK (q + 1) wr v ps
  bel : Below w1.heap.size w1 wr
  cut : Cut.parts kdL [] its = ps.map (fun x => x.l) ++ Cut.parts kdL cur (its.drop k)
  few : ps.length ≤ k
  cl : cur.length ≤ k
  my : ∀ x ∈ cur, mayK x = true
  low : w1.heap.size ≤ q
variable {w1 wr w4 w5 : World} {its cur : List Kd} {q k m la c d : Nat} {v v' : Value} {ps : List (Pt Int)} {a b : Option Addr} {x : Kd}
theorem StdK.start (w1 : World) (its : List Kd) : StdK w1 its w1.heap.size 0 (.slice none 0 0) [] [] none 0 none 0 (w1.alloc (.cells #[.bool false, .slice none 0 0, .slice none 0 0] 25)) :=
  ⟨Nblk.new w1 false none none 0 0 0 0, ⟨World.ownsRow_nil _ _ _ _, World.ownsRow_nil _ _ _ _⟩, OwnP.nil, below_alloc _ _, rfl, Nat.le_refl _, Nat.le_refl _, (fun x hx => by cases hx), Nat.le_refl _⟩
theorem DuoK.below {l1 l2 : List Kd} {w w' : World} (h : DuoK wr m la l1 l2 w) (hb : Below w.heap.size w w') : DuoK wr m la l1 l2 w' := by
  obtain ⟨a1, c1, b1, d1, a2, c2, h1, h2, h3, h4, h5, h6⟩ := h
  exact ⟨a1, c1, b1, d1, a2, c2, h1.below hb, h2.below hb, h3.below hb, h4.below hb, below_then h5 hb, h6⟩
theorem StdK.cutoff {a2 : Option Addr} {c2 : Nat} (h : StdK w1 its q k v cur ps a c b d wr) (hx : its[k]? = some x) (hmy : mayK x = true) (big : 1007 < Cut.size kdL (cur ++ [x])) (hb : Below wr.heap.size wr w4)
    (o2 : OwnE kv 49 wr.heap.size w4 (.slice a2 1 c2) [x]) (hg : w4.grownBy w5 v.ownBlock) (hr : w5.ownsRow (q + 1) 25 3 v' (ps.length + 1) (ps.flatMap pcK ++ pcK ⟨a, c, b, d, cur⟩)) :
    StdK w1 its q (k + 1) v' [x] (ps ++ [⟨a, c, b, d, cur⟩]) a2 c2 none 0 (((w5.setCell ⟨q, 0, none⟩ (.bool false)).setCell ⟨q, 1, none⟩ (.slice none 0 0)).setCell ⟨q, 2, none⟩ (.slice a2 1 c2)) := by
  have ho := h.out.below hb
  have hq : q < wr.heap.size := h.one.lt
  have n1 : Nblk w5 q false b 0 d a cur.length c := (h.one.below hb).grown hg (fun e => by have := (World.ownsRow.lt ho.row q e).1; omega)
  have hp := OwnP.snoc (x := ⟨a, c, b, d, cur⟩) ho (by decide) (h.two.k.below hb) hg hr
  have o5 : OwnE kv 49 (q + 1) w5 (.slice a2 1 c2) [x] := (o2.kept (by decide) ho hg).base hq
  have hbel : Below w1.heap.size w1 w5 := (h.bel.trans (hb.mono h.bel.size)).grown hg (Nat.le_trans h.bel.size hb.size) (fun g hgg => by have := (World.ownsRow.lt ho.row g hgg).1; have := h.low; omega)
  refine ⟨n1.set3 _ _ _ _ _ _ _, ⟨World.ownsRow_nil _ _ _ _, ((o5.setq (Nat.lt_succ_self q) _ _).setq (Nat.lt_succ_self q) _ _).setq (Nat.lt_succ_self q) _ _⟩, ((hp.setq (Nat.lt_succ_self q) _ _).setq (Nat.lt_succ_self q) _ _).setq (Nat.lt_succ_self q) _ _, ((hbel.setCell (p := ⟨q, 0, none⟩) h.low _).setCell (p := ⟨q, 1, none⟩) h.low _).setCell (p := ⟨q, 2, none⟩) h.low _, ?_, ?_, ?_, ?_, h.low⟩
  · rw [h.cut, drop_get hx, Cut.parts, if_pos big, List.map_append]
    simp
  · have := h.few
    simp
    omega
  · simp
  · intro y hy
    simp at hy
    subst hy
    exact hmy
theorem StdK.goon {a1 b1 : Option Addr} {c1 d1 : Nat} (h : StdK w1 its q k v cur ps a c b d wr) (hx : its[k]? = some x) (hmy : mayK x = true) (big : ¬ 1007 < Cut.size kdL (cur ++ [x])) (hb : Below wr.heap.size wr w4)
    (t1 : Two wr.heap.size w4 b1 [] d1 a1 (cur ++ [x]) c1) :
    StdK w1 its q (k + 1) v (cur ++ [x]) ps a1 c1 b1 d1 (((w4.setCell ⟨q, 0, none⟩ (.bool false)).setCell ⟨q, 1, none⟩ (.slice b1 0 d1)).setCell ⟨q, 2, none⟩ (.slice a1 (cur ++ [x]).length c1)) := by
  have ho := h.out.below hb
  have hq : q < wr.heap.size := h.one.lt
  have n1 := h.one.below hb
  have t2 := t1.base hq
  have hbel : Below w1.heap.size w1 w4 := h.bel.trans (hb.mono h.bel.size)
  refine ⟨n1.set3 _ _ _ _ _ _ _, ⟨((t2.i.setq (Nat.lt_succ_self q) _ _).setq (Nat.lt_succ_self q) _ _).setq (Nat.lt_succ_self q) _ _, ((t2.k.setq (Nat.lt_succ_self q) _ _).setq (Nat.lt_succ_self q) _ _).setq (Nat.lt_succ_self q) _ _⟩, ((ho.setq (Nat.lt_succ_self q) _ _).setq (Nat.lt_succ_self q) _ _).setq (Nat.lt_succ_self q) _ _, ((hbel.setCell (p := ⟨q, 0, none⟩) h.low _).setCell (p := ⟨q, 1, none⟩) h.low _).setCell (p := ⟨q, 2, none⟩) h.low _, ?_, ?_, ?_, ?_, h.low⟩
  · rw [h.cut, drop_get hx, Cut.parts, if_neg big]
  · have := h.few
    omega
  · have := h.cl
    simp
    omega
  · intro y hy
    rcases List.mem_append.1 hy with hy | hy
    · exact h.my y hy
    · simp at hy
      subst hy
      exact hmy
theorem bytes_szK (ai ak : Option Addr) (ci ck : Nat) (l : List Kd) (w : World) (hr : Row kv w ak l) (hl : l.length ≤ 1100) (hm : ∀ x ∈ l, mayK x = true) :
    Calls Try.prog 24 #[.agg #[.bool false, .slice ai 0 ci, .slice ak l.length ck]] w fun e w' => ∃ S : ByteArray, e = .returned (.string S) ∧ S.size = Cut.size kdL l ∧ Below w.heap.size w w' :=
  (refBytesK ai ak ci ck l w hr hl hm).mono (fun e w' ⟨h1, h2⟩ => ⟨_, h1, by
    rw [strOf_size, List.length_cons, List.length_append]
    unfold Cut.size sz
    omega, h2⟩)
/- What a round's first statement has made so far, in whatever order. -/
structure Mk8 (wr : World) (its : List It) (kds : List Kd) (w : World) (om og ok : Option Nat) (r5 r9 : Option Value) : Prop where
  bel : Below wr.heap.size wr w
  m : ∀ x, om = some x → Nblk w x false none 0 0 none 0 0 ∧ wr.heap.size ≤ x
  g : ∀ x, og = some x → w.heap[x]? = some (.cells #[] 47 (0, 0)) ∧ wr.heap.size ≤ x
  k : ∀ x, ok = some x → w.heap[x]? = some (.cells #[] 49 (0, 0)) ∧ wr.heap.size ≤ x
  a5 : ∀ v, r5 = some v → w.ownsRow wr.heap.size 47 2 v its.length (pairs Value.string its)
  a9 : ∀ v, r9 = some v → w.ownsRow wr.heap.size 49 2 v kds.length (pairs kv kds)
variable {wr w w' : World} {its : List It} {kds : List Kd} {om og ok : Option Nat} {r5 r9 : Option Value}
theorem Mk8.start (wr : World) (its : List It) (kds : List Kd) : Mk8 wr its kds wr.drew none none none none none :=
  ⟨(Below.refl _ _).drew, (fun x h => by cases h), (fun x h => by cases h), (fun x h => by cases h), (fun x h => by cases h), (fun x h => by cases h)⟩
theorem Mk8.grow (h : Mk8 wr its kds w om og ok r5 r9) (hb : Below w.heap.size w w') : Mk8 wr its kds w' om og ok r5 r9 :=
  ⟨below_then h.bel hb, fun x e => ⟨(h.m x e).1.below hb, (h.m x e).2⟩, fun x e => ⟨(hb.block x (Array.getElem?_eq_some_iff.1 (h.g x e).1).1).trans (h.g x e).1, (h.g x e).2⟩, fun x e => ⟨(hb.block x (Array.getElem?_eq_some_iff.1 (h.k x e).1).1).trans (h.k x e).1, (h.k x e).2⟩,
   fun v e => ownsRow_same (h.a5 v e) (fun g hg => hb.block g (World.ownsRow.lt (h.a5 v e) g hg).2), fun v e => ownsRow_same (h.a9 v e) (fun g hg => hb.block g (World.ownsRow.lt (h.a9 v e) g hg).2)⟩
theorem Mk8.allocM (h : Mk8 wr its kds w none og ok r5 r9) : Mk8 wr its kds (w.alloc (.cells #[.bool false, .slice none 0 0, .slice none 0 0] 25)) (some w.heap.size) og ok r5 r9 :=
  have h' := h.grow (below_alloc w (.cells #[.bool false, .slice none 0 0, .slice none 0 0] 25))
  ⟨h'.bel, (fun x e => by cases e; exact ⟨Nblk.new w false none none 0 0 0 0, h.bel.size⟩), h'.g, h'.k, h'.a5, h'.a9⟩
theorem Mk8.allocG (h : Mk8 wr its kds w om none ok r5 r9) : Mk8 wr its kds (w.alloc (.cells #[] 47)) om (some w.heap.size) ok r5 r9 :=
  have h' := h.grow (below_alloc w (.cells #[] 47))
  ⟨h'.bel, h'.m, (fun x e => by cases e; exact ⟨heapNew rfl, h.bel.size⟩), h'.k, h'.a5, h'.a9⟩
theorem Mk8.allocK (h : Mk8 wr its kds w om og none r5 r9) : Mk8 wr its kds (w.alloc (.cells #[] 49)) om og (some w.heap.size) r5 r9 :=
  have h' := h.grow (below_alloc w (.cells #[] 49))
  ⟨h'.bel, h'.m, h'.g, (fun x e => by cases e; exact ⟨heapNew rfl, h.bel.size⟩), h'.a5, h'.a9⟩
theorem Mk8.app5 {g : Nat} {v : Value} (h : Mk8 wr its kds w om (some g) ok none r9) (W : Went wr w w' 47 v its.length (pairs Value.string its) g) : Mk8 wr its kds w' om none ok (some v) r9 :=
  ⟨W.below h.bel, fun x e => ⟨W.other (h.m x e).1 (by decide), (h.m x e).2⟩, (fun x e => by cases e), fun x e => ⟨W.other (h.k x e).1 (by decide), (h.k x e).2⟩, (fun v e => by cases e; exact W.own), fun v e => W.row (by decide) (h.a9 v e)⟩
theorem Mk8.app9 {g : Nat} {v : Value} (h : Mk8 wr its kds w om og (some g) r5 none) (W : Went wr w w' 49 v kds.length (pairs kv kds) g) : Mk8 wr its kds w' om og none r5 (some v) :=
  ⟨W.below h.bel, fun x e => ⟨W.other (h.m x e).1 (by decide), (h.m x e).2⟩, fun x e => ⟨W.other (h.g x e).1 (by decide), (h.g x e).2⟩, (fun x e => by cases e), fun v e => W.row (by decide) (h.a5 v e), (fun v e => by cases e; exact W.own)⟩
theorem Mk8.made {m : Nat} {ai ak : Option Addr} {ci ck : Nat} (lf : Bool) (h : Mk8 wr its kds w (some m) none none (some (.slice ai its.length ci)) (some (.slice ak kds.length ck))) :
    Made wr m lf its kds (((w.setCell ⟨m, 0, none⟩ (.bool lf)).setCell ⟨m, 1, none⟩ (.slice ai its.length ci)).setCell ⟨m, 2, none⟩ (.slice ak kds.length ck)) := by
  have hm := h.m m rfl
  have i : OwnE Value.string 47 wr.heap.size w (.slice ai its.length ci) its := h.a5 _ rfl
  have k : OwnE kv 49 wr.heap.size w (.slice ak kds.length ck) kds := h.a9 _ rfl
  have n1 := hm.1.set0 lf
  have n2 := n1.set1 ai its.length ci
  have i3 := ((i.set hm.1 (by decide) 0 (.bool lf)).set n1 (by decide) 1 (.slice ai its.length ci)).set n2 (by decide) 2 (.slice ak kds.length ck)
  have k3 := ((k.set hm.1 (by decide) 0 (.bool lf)).set n1 (by decide) 1 (.slice ai its.length ci)).set n2 (by decide) 2 (.slice ak kds.length ck)
  exact ⟨ai, ci, ak, ck, n2.set2 _ _ _, ⟨i3, k3⟩, ((h.bel.setCell (p := ⟨m, 0, none⟩) hm.2 _).setCell (p := ⟨m, 1, none⟩) hm.2 _).setCell (p := ⟨m, 2, none⟩) hm.2 _, hm.2⟩
theorem Made.bel {w w' : World} {m : Nat} {lf : Bool} {its : List It} {kds : List Kd} (h : Made w m lf its kds w') : Below w.heap.size w w' := by
  obtain ⟨_, _, _, _, _, _, h, _⟩ := h
  exact h
end Go.Proofs.Ytepkifledonldaa
