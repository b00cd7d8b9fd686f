/- What the document's Decode has in memory while it reads: where its answer goes, its reader, its node. -/
import Derived.Test.YtepkifledonldaaCodec
import Derived.Test.YtepkifledonldaaReftext
namespace Go.Proofs.Ytepkifledonldaa
open Go.ChangeShapes Go.WideShapes Go.ChangeAt Go.RowKit

theorem Rm.below {w w' : World} {r e : Nat} {L : ByteArray} (h : Rm w r L e) (hb : Below w.heap.size w w') : Rm w' r L e := (hb.block r h.lt).trans h
theorem Rm.new (w : World) (s : ByteArray) : Rm (w.alloc (.cells #[.string s, .int .i64 0] 55)) w.heap.size s 0 := heap_alloc_new w _
theorem Nblk.toldM {w w' : World} {p : Nat} {L : Bool} {ai ak : Option Addr} {il ci kl ck : Nat} {r e : Nat} {M : ByteArray} (h : Nblk w p L ai il ci ak kl ck) (ht : ToldM w w' r M e) (hp : p ≠ r) : Nblk w' p L ai il ci ak kl ck := (ht.1.block p h.lt (fun e => hp (Option.some.inj e))).trans h
theorem Nblk.notRm {w : World} {p r e : Nat} {L : Bool} {ai ak : Option Addr} {il ci kl ck : Nat} {M : ByteArray} (h : Nblk w p L ai il ci ak kl ck) (hr : Rm w r M e) : p ≠ r := by
  intro e
  subst e
  unfold Nblk at h
  unfold Rm at hr
  rw [h] at hr
  simp at hr

structure Dst (W : World) (p g q B : Nat) (wr : World) (L : ByteArray) (e : Nat) (lf : Bool) (ai : Option Addr) (il ci : Nat) (ak : Option Addr) (kl ck : Nat) : Prop where
  bel : Below W.heap.size W wr
  res : Nblk wr p false none 0 0 none 0 0
  rd : Rm wr g L e
  nd : Nblk wr q lf ai il ci ak kl ck
  ne : p ≠ q
  lp : W.heap.size ≤ p
  lg : W.heap.size ≤ g
  lq : W.heap.size ≤ q
  lb : W.heap.size ≤ B
  bz : B ≤ wr.heap.size
variable {W wr w' : World} {p g q B : Nat} {L : ByteArray} {e : Nat} {lf : Bool} {ai ak : Option Addr} {il ci kl ck : Nat}
theorem Dst.grow (h : Dst W p g q B wr L e lf ai il ci ak kl ck) (hb : Below wr.heap.size wr w') : Dst W p g q B w' L e lf ai il ci ak kl ck :=
  ⟨below_then h.bel hb, h.res.below hb, h.rd.below hb, h.nd.below hb, h.ne, h.lp, h.lg, h.lq, h.lb, Nat.le_trans h.bz hb.size⟩
theorem Dst.told {L' : ByteArray} {e' : Nat} (h : Dst W p g q B wr L e lf ai il ci ak kl ck) (ht : ToldM wr w' g L' e') : Dst W p g q B w' L' e' lf ai il ci ak kl ck :=
  ⟨h.bel.grown ht.1 h.bel.size (fun k hk => by injection hk with hk; have := h.lg; omega), h.res.toldM ht (h.res.notRm h.rd), ht.2, h.nd.toldM ht (h.nd.notRm h.rd), h.ne, h.lp, h.lg, h.lq, h.lb, Nat.le_trans h.bz ht.1.size⟩
/-- behind an append to a row of one's own -/
theorem Dst.app {β : Type} {sv : β → Value} {T : TypeId} {v : Value} {l : List (ByteArray × β)} (h : Dst W p g q B wr L e lf ai il ci ak kl ck) (ho : OwnE sv T B wr v l) (h25 : T ≠ 25) (h55 : T ≠ 55) (hg : wr.grownBy w' v.ownBlock) : Dst W p g q B w' L e lf ai il ci ak kl ck :=
  ⟨h.bel.grown hg h.bel.size (fun k hk => by have := (World.ownsRow.lt ho k hk).1; have := h.lb; omega),
    (hg.block p h.res.lt (ho.other h.res h25).symm).trans h.res, (hg.block g h.rd.lt (ho.other h.rd h55).symm).trans h.rd, (hg.block q h.nd.lt (ho.other h.nd h25).symm).trans h.nd, h.ne, h.lp, h.lg, h.lq, h.lb, Nat.le_trans h.bz hg.size⟩
theorem Dst.set1 (h : Dst W p g q B wr L e lf ai il ci ak kl ck) (a : Option Addr) (n c : Nat) : Dst W p g q B (wr.setCell ⟨q, 1, none⟩ (.slice a n c)) L e lf a n c ak kl ck :=
  ⟨h.bel.setCell h.lq _, (Below.heap_setCell wr ⟨q, 1, none⟩ _ p h.ne).trans h.res, (Below.heap_setCell wr ⟨q, 1, none⟩ _ g (h.nd.notRm h.rd).symm).trans h.rd, h.nd.set1 a n c, h.ne, h.lp, h.lg, h.lq, h.lb, by have := h.bz; simpa [World.setCell] using this⟩
theorem Dst.set2 (h : Dst W p g q B wr L e lf ai il ci ak kl ck) (a : Option Addr) (n c : Nat) : Dst W p g q B (wr.setCell ⟨q, 2, none⟩ (.slice a n c)) L e lf ai il ci a n c :=
  ⟨h.bel.setCell h.lq _, (Below.heap_setCell wr ⟨q, 2, none⟩ _ p h.ne).trans h.res, (Below.heap_setCell wr ⟨q, 2, none⟩ _ g (h.nd.notRm h.rd).symm).trans h.rd, h.nd.set2 a n c, h.ne, h.lp, h.lg, h.lq, h.lb, by have := h.bz; simpa [World.setCell] using this⟩
theorem OwnE.set {β : Type} {sv : β → Value} {T : TypeId} {v : Value} {l : List (ByteArray × β)} (ho : OwnE sv T B wr v l) (h : Nblk wr q lf ai il ci ak kl ck) (h25 : T ≠ 25) (j : Nat) (u : Value) : OwnE sv T B (wr.setCell ⟨q, j, none⟩ u) v l :=
  ownsRow_setCell_other (a := ⟨q, j, none⟩) ho (ho.other h h25) u
theorem OwnE.toldM {β : Type} {sv : β → Value} {T : TypeId} {v : Value} {l : List (ByteArray × β)} {L' : ByteArray} {e' : Nat} (ho : OwnE sv T B wr v l) (h55 : T ≠ 55) (hr : Rm wr g L e) (ht : ToldM wr w' g L' e') : OwnE sv T B w' v l :=
  World.ownsRow.kept ho ht.1 (.inr (ho.other hr h55))

/-- what is stored in the end, or the error -/
theorem dec_zero (w : World) (x : Ending) (w' : World) (hx : x = .returned (.tuple #[.agg #[.bool false, .slice none 0 0, .slice none 0 0], .int .i64 60])) (hb : Below w.heap.size w w') : DecSaid (nd0, 60) w x w' :=
  ⟨none, none, 0, 0, hx, ⟨.inl rfl, .inl rfl⟩, hb⟩
theorem refDec_bad {S : ByteArray} (h : 1007 < S.size ∨ ¬ ((byteR S 0).1 = 1 ∨ (byteR S 0).1 = 2) ∨ 1007 < (shortR (byteR S 0).2.1 (byteR S 0).2.2).1) : decodeN S = (nd0, 60) := by
  rw [← refDec_eq]
  unfold refDec
  rw [if_pos h]
theorem refDec_in {S : ByteArray} (h : ¬ (1007 < S.size ∨ ¬ ((byteR S 0).1 = 1 ∨ (byteR S 0).1 = 2) ∨ 1007 < (shortR (byteR S 0).2.1 (byteR S 0).2.2).1)) :
    decodeN S = if (readN S).2.2 = 0 ∧ (readN S).2.1.size = 0 ∧ rightB (readN S).1 = true then ((readN S).1, 0) else (nd0, 60) := by
  rw [← refDec_eq]
  unfold refDec
  rw [if_neg h]
end Go.Proofs.Ytepkifledonldaa
