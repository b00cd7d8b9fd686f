/- The two new nodes of a round of the document's Split. -/
import Derived.Test.YtepkifledonldaaRefmore
namespace Go.Proofs.Ytepkifledonldaa
open Go.ChangeShapes Go.WideShapes Go.ChangeAt Go.RowKit

theorem Nblk.off {w : World} {p q j : Nat} {L : Bool} {ai ak : Option Addr} {il ci kl ck : Nat} (h : Nblk w p L ai il ci ak kl ck) (hne : p ≠ q) (u : Value) : Nblk (w.setCell ⟨q, j, none⟩ u) p L ai il ci ak kl ck :=
  (Below.heap_setCell w ⟨q, j, none⟩ u p hne).trans h
theorem Nblk.grown {w w' : World} {p : Nat} {L : Bool} {ai ak : Option Addr} {il ci kl ck : Nat} {g : Option Nat} (h : Nblk w p L ai il ci ak kl ck) (hg : w.grownBy w' g) (hne : g ≠ some p) : Nblk w' p L ai il ci ak kl ck :=
  (hg.block p h.lt (fun e => hne e.symm)).trans h
theorem OwnE.setq {β : Type} {sv : β → Value} {T : TypeId} {B : Nat} {w : World} {v : Value} {l : List (ByteArray × β)} (h : OwnE sv T B w v l) {q : Nat} (hq : q < B) (j : Nat) (u : Value) : OwnE sv T B (w.setCell ⟨q, j, none⟩ u) v l :=
  ownsRow_same h (fun g hg => Below.heap_setCell w ⟨q, j, none⟩ u g (by have := (World.ownsRow.lt h g hg).1; show g ≠ q; omega))
theorem OwnP.setq {β : Type} {sv : β → Value} {T : TypeId} {pc : Pt β → List Value} {B : Nat} {w : World} {v : Value} {ps : List (Pt β)} (h : OwnP sv T pc B w v ps) {q : Nat} (hq : q < B) (j : Nat) (u : Value) : OwnP sv T pc B (w.setCell ⟨q, j, none⟩ u) v ps :=
  ⟨ownsRow_same h.row (fun g hg => Below.heap_setCell w ⟨q, j, none⟩ u g (by have := (World.ownsRow.lt h.row g hg).1; show g ≠ q; omega)), fun x hx => (h.its x hx).setq hq j u⟩
theorem Nblk.set3 {w : World} {p : Nat} {L : Bool} {ai ak : Option Addr} {il ci kl ck : Nat} (h : Nblk w p L ai il ci ak kl ck) (L' : Bool) (a : Option Addr) (n c : Nat) (a2 : Option Addr) (n2 c2 : Nat) :
    Nblk (((w.setCell ⟨p, 0, none⟩ (.bool L')).setCell ⟨p, 1, none⟩ (.slice a n c)).setCell ⟨p, 2, none⟩ (.slice a2 n2 c2)) p L' a n c a2 n2 c2 := ((h.set0 L').set1 a n c).set2 a2 n2 c2
section
def DuoI (wr : World) (m la : Nat) (l1 l2 : List It) (w : World) : Prop := ∃ a1 c1 b1 d1 a2 c2, Nblk w m true a1 l1.length c1 b1 0 d1 ∧ Two wr.heap.size w a1 l1 c1 b1 [] d1 ∧ Nblk w la true a2 l2.length c2 none 0 0 ∧ OwnE Value.string 47 wr.heap.size w (.slice a2 l2.length c2) l2 ∧ Below wr.heap.size wr w ∧ wr.heap.size ≤ m ∧ wr.heap.size ≤ la ∧ m ≠ la ∧ (l2 = [] → a2 = none ∧ c2 = 0)
theorem DuoI.start {wr w : World} {m : Nat} {l : List It} (h : Made wr m true l [] w) : DuoI wr m w.heap.size l [] (w.alloc (.cells #[.bool true, .slice none 0 0, .slice none 0 0] 25)) := by
  obtain ⟨ai, ci, ak, ck, h1, h2, h3, h4⟩ := h
  have hb := below_alloc w (.cells #[.bool true, .slice none 0 0, .slice none 0 0] 25)
  exact ⟨_, _, _, _, none, 0, h1.below hb, h2.below hb, Nblk.new w true none none 0 0 0 0, World.ownsRow_nil _ _ _ _, h3.alloc h3.size _, h4, h3.size, Nat.ne_of_lt h1.lt, fun _ => ⟨rfl, rfl⟩⟩
variable {wr w w' : World} {m la c1 d1 : Nat} {a1 b1 : Option Addr} {l1 : List It}
theorem DuoI.kept (t1 : Two wr.heap.size w a1 l1 c1 b1 [] d1) {p : Nat} {L : Bool} {ai ak : Option Addr} {il ci kl ck : Nat} (h : Nblk w p L ai il ci ak kl ck) (hg : w.grownBy w' (Value.slice a1 l1.length c1).ownBlock) : Nblk w' p L ai il ci ak kl ck :=
  h.grown hg (t1.i.other h (by decide))
theorem DuoI.grow1 {a' : Option Addr} {cap' : Nat} {key : ByteArray} {val : ByteArray} (n1 : Nblk w m true a1 l1.length c1 b1 0 d1) (t1 : Two wr.heap.size w a1 l1 c1 b1 [] d1) (n2 : Nblk w la true none 0 0 none 0 0) (hb : Below wr.heap.size wr w) (hm : wr.heap.size ≤ m) (hla : wr.heap.size ≤ la) (hne : m ≠ la)
    (ho : w'.ownsRow wr.heap.size 47 2 (.slice a' (l1.length + 1) cap') (l1.length + 1) (pairs Value.string l1 ++ [.string key, Value.string val])) (hg : w.grownBy w' (Value.slice a1 l1.length c1).ownBlock) :
    DuoI wr m la (l1 ++ [(key, val)]) [] (w'.setCell ⟨m, 1, none⟩ (.slice a' (l1.length + 1) cap')) := by
  have n1' := DuoI.kept t1 n1 hg
  have n2' := DuoI.kept t1 n2 hg
  have k' : OwnE kv 49 wr.heap.size w' (.slice b1 0 d1) [] := keepKind t1.i hg (by decide) t1.k
  have i' : OwnE Value.string 47 wr.heap.size w' (.slice a' (l1.length + 1) cap') (l1 ++ [(key, val)]) := OwnE.snoc (x := (key, val)) ho
  have hl : (l1 ++ [(key, val)]).length = l1.length + 1 := by simp
  refine ⟨a', cap', b1, d1, none, 0, ?_, ?_, n2'.off (Ne.symm hne) _, World.ownsRow_nil _ _ _ _, (hb.grown hg hb.size (fun k hk => (World.ownsRow.lt t1.i k hk).1)).setCell hm _, hm, hla, hne, fun _ => ⟨rfl, rfl⟩⟩
  · rw [hl]
    exact n1'.set1 _ _ _
  · have X1 := i'.set n1' (by decide) 1 (.slice a' (l1.length + 1) cap')
    have X2 := k'.set n1' (by decide) 1 (.slice a' (l1.length + 1) cap')
    rw [← hl] at X1
    rw [← hl] at X2
    rw [← hl]
    exact ⟨X1, X2⟩
theorem DuoI.grow2 {a' : Option Addr} {cap' : Nat} {key : ByteArray} {val : ByteArray} (n1 : Nblk w m true a1 l1.length c1 b1 0 d1) (t1 : Two wr.heap.size w a1 l1 c1 b1 [] d1) (n2 : Nblk w la true none 0 0 none 0 0) (hb : Below wr.heap.size wr w) (hm : wr.heap.size ≤ m) (hla : wr.heap.size ≤ la) (hne : m ≠ la)
    (ho : w'.ownsRow wr.heap.size 47 2 (.slice a' (0 + 1) cap') (0 + 1) ([] ++ [.string key, Value.string val])) (hg : w.grownBy w' none) :
    DuoI wr m la l1 [(key, val)] (w'.setCell ⟨la, 1, none⟩ (.slice a' (0 + 1) cap')) := by
  have hbw : Below w.heap.size w w' := (Below.refl _ _).grown hg (Nat.le_refl _) (fun k hk => by cases hk)
  have n1' := n1.below hbw
  have n2' := n2.below hbw
  have t1' := t1.below hbw
  have i' : OwnE Value.string 47 wr.heap.size w' (.slice a' (0 + 1) cap') [(key, val)] := ho
  exact ⟨a1, c1, b1, d1, a', cap', n1'.off hne _, ⟨t1'.i.set n2' (by decide) 1 _, t1'.k.set n2' (by decide) 1 _⟩, n2'.set1 _ _ _, i'.set n2' (by decide) 1 _, (hb.grown hg hb.size (fun k hk => by cases hk)).setCell hla _, hm, hla, hne, (fun h => by cases h)⟩
end
section
def DuoK (wr : World) (m la : Nat) (l1 l2 : List Kd) (w : World) : Prop := ∃ a1 c1 b1 d1 a2 c2, Nblk w m false b1 0 d1 a1 l1.length c1 ∧ Two wr.heap.size w b1 [] d1 a1 l1 c1 ∧ Nblk w la false none 0 0 a2 l2.length c2 ∧ OwnE kv 49 wr.heap.size w (.slice a2 l2.length c2) l2 ∧ Below wr.heap.size wr w ∧ wr.heap.size ≤ m ∧ wr.heap.size ≤ la ∧ m ≠ la ∧ (l2 = [] → a2 = none ∧ c2 = 0)
theorem DuoK.start {wr w : World} {m : Nat} {l : List Kd} (h : Made wr m false [] l w) : DuoK wr m w.heap.size l [] (w.alloc (.cells #[.bool false, .slice none 0 0, .slice none 0 0] 25)) := by
  obtain ⟨ai, ci, ak, ck, h1, h2, h3, h4⟩ := h
  have hb := below_alloc w (.cells #[.bool false, .slice none 0 0, .slice none 0 0] 25)
  exact ⟨_, _, _, _, none, 0, h1.below hb, h2.below hb, Nblk.new w false none none 0 0 0 0, World.ownsRow_nil _ _ _ _, h3.alloc h3.size _, h4, h3.size, Nat.ne_of_lt h1.lt, fun _ => ⟨rfl, rfl⟩⟩
variable {wr w w' : World} {m la c1 d1 : Nat} {a1 b1 : Option Addr} {l1 : List Kd}
theorem DuoK.kept (t1 : Two wr.heap.size w b1 [] d1 a1 l1 c1) {p : Nat} {L : Bool} {ai ak : Option Addr} {il ci kl ck : Nat} (h : Nblk w p L ai il ci ak kl ck) (hg : w.grownBy w' (Value.slice a1 l1.length c1).ownBlock) : Nblk w' p L ai il ci ak kl ck :=
  h.grown hg (t1.k.other h (by decide))
theorem DuoK.grow1 {a' : Option Addr} {cap' : Nat} {key : ByteArray} {val : Int} (n1 : Nblk w m false b1 0 d1 a1 l1.length c1) (t1 : Two wr.heap.size w b1 [] d1 a1 l1 c1) (n2 : Nblk w la false none 0 0 none 0 0) (hb : Below wr.heap.size wr w) (hm : wr.heap.size ≤ m) (hla : wr.heap.size ≤ la) (hne : m ≠ la)
    (ho : w'.ownsRow wr.heap.size 49 2 (.slice a' (l1.length + 1) cap') (l1.length + 1) (pairs kv l1 ++ [.string key, kv val])) (hg : w.grownBy w' (Value.slice a1 l1.length c1).ownBlock) :
    DuoK wr m la (l1 ++ [(key, val)]) [] (w'.setCell ⟨m, 2, none⟩ (.slice a' (l1.length + 1) cap')) := by
  have n1' := DuoK.kept t1 n1 hg
  have n2' := DuoK.kept t1 n2 hg
  have k' : OwnE Value.string 47 wr.heap.size w' (.slice b1 0 d1) [] := keepKind t1.k hg (by decide) t1.i
  have i' : OwnE kv 49 wr.heap.size w' (.slice a' (l1.length + 1) cap') (l1 ++ [(key, val)]) := OwnE.snoc (x := (key, val)) ho
  have hl : (l1 ++ [(key, val)]).length = l1.length + 1 := by simp
  refine ⟨a', cap', b1, d1, none, 0, ?_, ?_, n2'.off (Ne.symm hne) _, World.ownsRow_nil _ _ _ _, (hb.grown hg hb.size (fun k hk => (World.ownsRow.lt t1.k k hk).1)).setCell hm _, hm, hla, hne, fun _ => ⟨rfl, rfl⟩⟩
  · rw [hl]
    exact n1'.set2 _ _ _
  · have X1 := i'.set n1' (by decide) 2 (.slice a' (l1.length + 1) cap')
    have X2 := k'.set n1' (by decide) 2 (.slice a' (l1.length + 1) cap')
    rw [← hl] at X1
    rw [← hl] at X2
    rw [← hl]
    exact ⟨X2, X1⟩
theorem DuoK.grow2 {a' : Option Addr} {cap' : Nat} {key : ByteArray} {val : Int} (n1 : Nblk w m false b1 0 d1 a1 l1.length c1) (t1 : Two wr.heap.size w b1 [] d1 a1 l1 c1) (n2 : Nblk w la false none 0 0 none 0 0) (hb : Below wr.heap.size wr w) (hm : wr.heap.size ≤ m) (hla : wr.heap.size ≤ la) (hne : m ≠ la)
    (ho : w'.ownsRow wr.heap.size 49 2 (.slice a' (0 + 1) cap') (0 + 1) ([] ++ [.string key, kv val])) (hg : w.grownBy w' none) :
    DuoK wr m la l1 [(key, val)] (w'.setCell ⟨la, 2, none⟩ (.slice a' (0 + 1) cap')) := by
  have hbw : Below w.heap.size w w' := (Below.refl _ _).grown hg (Nat.le_refl _) (fun k hk => by cases hk)
  have n1' := n1.below hbw
  have n2' := n2.below hbw
  have t1' := t1.below hbw
  have i' : OwnE kv 49 wr.heap.size w' (.slice a' (0 + 1) cap') [(key, val)] := ho
  exact ⟨a1, c1, b1, d1, a', cap', n1'.off hne _, ⟨t1'.i.set n2' (by decide) 2 _, t1'.k.set n2' (by decide) 2 _⟩, n2'.set2 _ _ _, i'.set n2' (by decide) 2 _, (hb.grown hg hb.size (fun k hk => by cases hk)).setCell hla _, hm, hla, hne, (fun h => by cases h)⟩
end
end Go.Proofs.Ytepkifledonldaa
