/- Texts that the proof needs, one behind the other. -/
import Derived.Test.YtdelobaiicoogaaGreatDoorMas
import Derived.Test.YtdelobaiicoogaaGreatDoorMaq
import Derived.Test.YtdelobaiicoogaaGreatDoorMal
/- What the document's Decode has in memory while it reads: where its answer goes, its reader, its node. -/
namespace Go.Proofs.YtdelobaiicoogaaGreatDoor.L6
open Go.ChangeShapes Go.WideShapes Go.ChangeAt Go.RowKit

theorem Rm.below {w w' : World} {r e : Nat} {L : ByteArray} (h : Rm w r L e) (hb : Below w.heap.size w w') : Rm w' r L e := (hb.block r h.lt).trans h
theorem Rm.new (w : World) (s : ByteArray) : Rm (w.alloc (.cells #[.string s, .int .i64 0] 290)) w.heap.size s 0 := heap_alloc_new w _
theorem Nblk.toldM {w w' : World} {p : Nat} {L : Bool} {ai ak : Option Addr} {il ci kl ck : Nat} {r e : Nat} {M : ByteArray} (h : Nblk w p L ai il ci ak kl ck) (ht : ToldM w w' r M e) (hp : p ≠ r) : Nblk w' p L ai il ci ak kl ck := (ht.1.block p h.lt (fun e => hp (Option.some.inj e))).trans h
theorem Nblk.notRm {w : World} {p r e : Nat} {L : Bool} {ai ak : Option Addr} {il ci kl ck : Nat} {M : ByteArray} (h : Nblk w p L ai il ci ak kl ck) (hr : Rm w r M e) : p ≠ r := by
  intro e
  subst e
  unfold Nblk at h
  unfold Rm at hr
  rw [h] at hr
  simp at hr

structure Dst (W : World) (p g q B : Nat) (wr : World) (L : ByteArray) (e : Nat) (lf : Bool) (ai : Option Addr) (il ci : Nat) (ak : Option Addr) (kl ck : Nat) : Prop where
  bel : Below W.heap.size W wr
  res : Nblk wr p false none 0 0 none 0 0
  rd : Rm wr g L e
  nd : Nblk wr q lf ai il ci ak kl ck
  ne : p ≠ q
  lp : W.heap.size ≤ p
  lg : W.heap.size ≤ g
  lq : W.heap.size ≤ q
  lb : W.heap.size ≤ B
  bz : B ≤ wr.heap.size
variable {W wr w' : World} {p g q B : Nat} {L : ByteArray} {e : Nat} {lf : Bool} {ai ak : Option Addr} {il ci kl ck : Nat}
theorem Dst.grow (h : Dst W p g q B wr L e lf ai il ci ak kl ck) (hb : Below wr.heap.size wr w') : Dst W p g q B w' L e lf ai il ci ak kl ck :=
  ⟨below_then h.bel hb, h.res.below hb, h.rd.below hb, h.nd.below hb, h.ne, h.lp, h.lg, h.lq, h.lb, Nat.le_trans h.bz hb.size⟩
theorem Dst.told {L' : ByteArray} {e' : Nat} (h : Dst W p g q B wr L e lf ai il ci ak kl ck) (ht : ToldM wr w' g L' e') : Dst W p g q B w' L' e' lf ai il ci ak kl ck :=
  ⟨h.bel.grown ht.1 h.bel.size (fun k hk => by injection hk with hk; have := h.lg; omega), h.res.toldM ht (h.res.notRm h.rd), ht.2, h.nd.toldM ht (h.nd.notRm h.rd), h.ne, h.lp, h.lg, h.lq, h.lb, Nat.le_trans h.bz ht.1.size⟩
/-- behind an append to a row of one's own -/
theorem Dst.app {β : Type} {sv : β → Value} {T : TypeId} {v : Value} {l : List (ByteArray × β)} (h : Dst W p g q B wr L e lf ai il ci ak kl ck) (ho : OwnE sv T B wr v l) (h25 : T ≠ 38) (h55 : T ≠ 290) (hg : wr.grownBy w' v.ownBlock) : Dst W p g q B w' L e lf ai il ci ak kl ck :=
  ⟨h.bel.grown hg h.bel.size (fun k hk => by have := (World.ownsRow.lt ho k hk).1; have := h.lb; omega),
    (hg.block p h.res.lt (ho.other h.res h25).symm).trans h.res, (hg.block g h.rd.lt (ho.other h.rd h55).symm).trans h.rd, (hg.block q h.nd.lt (ho.other h.nd h25).symm).trans h.nd, h.ne, h.lp, h.lg, h.lq, h.lb, Nat.le_trans h.bz hg.size⟩
theorem Dst.set1 (h : Dst W p g q B wr L e lf ai il ci ak kl ck) (a : Option Addr) (n c : Nat) : Dst W p g q B (wr.setCell ⟨q, 1, none⟩ (.slice a n c)) L e lf a n c ak kl ck :=
  ⟨h.bel.setCell h.lq _, (Below.heap_setCell wr ⟨q, 1, none⟩ _ p h.ne).trans h.res, (Below.heap_setCell wr ⟨q, 1, none⟩ _ g (h.nd.notRm h.rd).symm).trans h.rd, h.nd.set1 a n c, h.ne, h.lp, h.lg, h.lq, h.lb, by have := h.bz; simpa [World.setCell] using this⟩
theorem Dst.set2 (h : Dst W p g q B wr L e lf ai il ci ak kl ck) (a : Option Addr) (n c : Nat) : Dst W p g q B (wr.setCell ⟨q, 2, none⟩ (.slice a n c)) L e lf ai il ci a n c :=
  ⟨h.bel.setCell h.lq _, (Below.heap_setCell wr ⟨q, 2, none⟩ _ p h.ne).trans h.res, (Below.heap_setCell wr ⟨q, 2, none⟩ _ g (h.nd.notRm h.rd).symm).trans h.rd, h.nd.set2 a n c, h.ne, h.lp, h.lg, h.lq, h.lb, by have := h.bz; simpa [World.setCell] using this⟩
theorem OwnE.set {β : Type} {sv : β → Value} {T : TypeId} {v : Value} {l : List (ByteArray × β)} (ho : OwnE sv T B wr v l) (h : Nblk wr q lf ai il ci ak kl ck) (h25 : T ≠ 38) (j : Nat) (u : Value) : OwnE sv T B (wr.setCell ⟨q, j, none⟩ u) v l :=
  ownsRow_setCell_other (a := ⟨q, j, none⟩) ho (ho.other h h25) u
theorem OwnE.toldM {β : Type} {sv : β → Value} {T : TypeId} {v : Value} {l : List (ByteArray × β)} {L' : ByteArray} {e' : Nat} (ho : OwnE sv T B wr v l) (h55 : T ≠ 290) (hr : Rm wr g L e) (ht : ToldM wr w' g L' e') : OwnE sv T B w' v l :=
  World.ownsRow.kept ho ht.1 (.inr (ho.other hr h55))

/-- what is stored in the end, or the error -/
theorem dec_zero (w : World) (x : Ending) (w' : World) (hx : x = .returned (.tuple #[.agg #[.bool false, .slice none 0 0, .slice none 0 0], .int .i64 60])) (hb : Below w.heap.size w w') : DecSaid (nd0, 60) w x w' :=
  ⟨none, none, 0, 0, hx, ⟨.inl rfl, .inl rfl⟩, hb⟩
theorem refDec_bad {S : ByteArray} (h : 1007 < S.size ∨ ¬ ((byteR S 0).1 = 1 ∨ (byteR S 0).1 = 2) ∨ 1007 < (shortR (byteR S 0).2.1 (byteR S 0).2.2).1) : decodeN S = (nd0, 60) := by
  rw [← refDec_eq]
  unfold refDec
  rw [if_pos h]
theorem refDec_in {S : ByteArray} (h : ¬ (1007 < S.size ∨ ¬ ((byteR S 0).1 = 1 ∨ (byteR S 0).1 = 2) ∨ 1007 < (shortR (byteR S 0).2.1 (byteR S 0).2.2).1)) :
    decodeN S = if (readN S).2.2 = 0 ∧ (readN S).2.1.size = 0 ∧ rightB (readN S).1 = true then ((readN S).1, 0) else (nd0, 60) := by
  rw [← refDec_eq]
  unfold refDec
  rw [if_neg h]
end Go.Proofs.YtdelobaiicoogaaGreatDoor.L6

/- The law's nodes: leaves of a number, nodes of kids. -/
namespace Go.Proofs.YtdelobaiicoogaaGreatDoor
open Go.ChangeShapes Go.WideShapes Go.ChangeAt Go.RowKit
open L6 (takeY takeN Nblk)

theorem results_cell {fn : Func} {p : Tmp} {ty : TypeId} (h : fn.results = #[.cell p ty]) (tmps : Array Value) (P : Program) (w : World) :
    (results fn tmps).run P w = ((asAddr (tmps.getD p undef)).run P w).andThen fun a w₁ => (loadVar ty a).run P w₁ := by
  simp only [results, h]
  simp [Sem.run_bind, Result.andThen]
/-! nodes of kids -/
/-- numbers in a row -/
def Irow (w : World) (a : Option Addr) (l : List Int) : Prop := l = [] ∨ ∃ b off, a = some ⟨b, off, none⟩ ∧ ∀ i x, l[i]? = some x → w.cell? ⟨b, off + i, none⟩ = some (.int .i64 x)
theorem Irow.grow {w w' : World} {a : Option Addr} {l : List Int} (h : Irow w a l) (hb : Below w.heap.size w w') : Irow w' a l := by
  rcases h with h | ⟨b, off, e, hh⟩
  · exact .inl h
  · exact .inr ⟨b, off, e, fun i x hx => L6.cell_keep (hh i x hx) hb⟩
theorem pair_one {s : ByteArray} {x : Value} (h : x.oneCell' = true) : ∀ u ∈ [Value.string s, x], u.oneCell' = true := by
  intro u hu
  simp at hu
  rcases hu with rfl | rfl
  · rfl
  · exact h
structure Ind (W : World) (p q B : Nat) (wr : World) (ak : Option Addr) (kl ck : Nat) : Prop where
  bel : Below W.heap.size W wr
  res : Nblk wr p false none 0 0 none 0 0
  nd : Nblk wr q false none 0 0 ak kl ck
  ne : p ≠ q
  lp : W.heap.size ≤ p
  lq : W.heap.size ≤ q
  lb : W.heap.size ≤ B
  bz : B ≤ wr.heap.size
variable {W wr w' : World} {p q B : Nat} {ak : Option Addr} {kl ck : Nat}
theorem Ind.grow (h : Ind W p q B wr ak kl ck) (hb : Below wr.heap.size wr w') : Ind W p q B w' ak kl ck :=
  ⟨below_then h.bel hb, h.res.below hb, h.nd.below hb, h.ne, h.lp, h.lq, h.lb, Nat.le_trans h.bz hb.size⟩
theorem Ind.app {v : Value} {l : List L6.Kd} (h : Ind W p q B wr ak kl ck) (ho : L6.OwnE L6.kv 76 B wr v l) (h25 : (76 : TypeId) ≠ 38) (hg : wr.grownBy w' v.ownBlock) : Ind W p q B w' ak kl ck :=
  ⟨h.bel.grown hg h.bel.size (fun k hk => by have := (World.ownsRow.lt ho k hk).1; have := h.lb; omega),
    (hg.block p h.res.lt (ho.other h.res h25).symm).trans h.res, (hg.block q h.nd.lt (ho.other h.nd h25).symm).trans h.nd, h.ne, h.lp, h.lq, h.lb, Nat.le_trans h.bz hg.size⟩
theorem Ind.set2 (h : Ind W p q B wr ak kl ck) (a : Option Addr) (n c : Nat) : Ind W p q B (wr.setCell ⟨q, 2, none⟩ (.slice a n c)) a n c :=
  ⟨h.bel.setCell h.lq _, (Below.heap_setCell wr ⟨q, 2, none⟩ _ p h.ne).trans h.res, h.nd.set2 a n c, h.ne, h.lp, h.lq, h.lb, by have := h.bz; simpa [World.setCell] using this⟩
end Go.Proofs.YtdelobaiicoogaaGreatDoor

/- The document's disk in memory: what is asked of it, its power, a write. -/
namespace Go.Proofs.YtdelobaiicoogaaGreatDoor.L3
open Go.ChangeShapes Go.WideShapes Go.ChangeAt Go.RowKit

def strs (l : List ByteArray) : List Value := l.map Value.string

structure RefAt (w : World) (r : Nat) (m : Dk) (ov pv : Value) : Prop where
  blk : w.heap[r]? = some (.cells #[ov, pv, .int .i64 m.left, .bool m.gone] 66 (0, 0))
  old : w.ownsRow 0 9 1 ov m.old.length (strs m.old)
  op : w.ownsRow 0 164 2 pv m.op.length (opCells m.op)
  ok : Ok m

def rfOf (r : Nat) (ov pv : Value) : List Nat := r :: (ov.ownBlock.toList ++ pv.ownBlock.toList)
def IsRef (w : World) (r : Nat) (m : Dk) (fp : List Nat) : Prop := ∃ ov pv, RefAt w r m ov pv ∧ fp = rfOf r ov pv
def RTurned (w w' : World) (r : Nat) (m' : Dk) (fp : List Nat) : Prop := ∃ fp', IsRef w' r m' fp' ∧ Moves fp w w' ∧ ∀ x ∈ fp', x ∈ fp ∨ w.heap.size ≤ x

variable {w w' : World} {r : Nat} {m : Dk} {ov pv : Value}

theorem RefAt.cell0 (h : RefAt w r m ov pv) : w.cell? ⟨r, 0, none⟩ = some ov := by simp [World.cell?, h.blk]
theorem RefAt.cell1 (h : RefAt w r m ov pv) : w.cell? ⟨r, 1, none⟩ = some pv := by simp [World.cell?, h.blk]
theorem RefAt.cell2 (h : RefAt w r m ov pv) : w.cell? ⟨r, 2, none⟩ = some (.int .i64 m.left) := by simp [World.cell?, h.blk]
theorem RefAt.cell3 (h : RefAt w r m ov pv) : w.cell? ⟨r, 3, none⟩ = some (.bool m.gone) := by simp [World.cell?, h.blk]
theorem RefAt.free (h : RefAt w r m ov pv) (i : Nat) : w.frozen? ⟨r, i, none⟩ = false := by simp [World.frozen?, h.blk]
theorem RefAt.rlt (h : RefAt w r m ov pv) : r < w.heap.size := (Array.getElem?_eq_some_iff.1 h.blk).1
theorem RefAt.no (h : RefAt w r m ov pv) : ov.ownBlock ≠ some r := by
  intro e
  obtain ⟨cur, h1⟩ := ownsRow_kind h.old e
  rw [h.blk] at h1
  simp at h1
theorem RefAt.np (h : RefAt w r m ov pv) : pv.ownBlock ≠ some r := by
  intro e
  obtain ⟨cur, h1⟩ := ownsRow_kind h.op e
  rw [h.blk] at h1
  simp at h1
theorem RefAt.nn (h : RefAt w r m ov pv) : ∀ g, ov.ownBlock = some g → pv.ownBlock ≠ some g := by
  intro g e1 e2
  obtain ⟨cur, h1⟩ := ownsRow_kind h.old e1
  obtain ⟨cur2, h2⟩ := ownsRow_kind h.op e2
  rw [h2] at h1
  simp at h1
theorem RefAt.lt (h : RefAt w r m ov pv) : ∀ x ∈ rfOf r ov pv, x < w.heap.size := by
  intro x hx
  simp [rfOf] at hx
  rcases hx with rfl | hx | hx
  · exact h.rlt
  · exact (h.old.lt x hx).2
  · exact (h.op.lt x hx).2
theorem RefAt.same (h : RefAt w r m ov pv) (hs : ∀ x ∈ rfOf r ov pv, w'.heap[x]? = w.heap[x]?) : RefAt w' r m ov pv :=
  ⟨(hs r (by simp [rfOf])).trans h.blk, ownsRow_same h.old (fun g hg => hs g (by simp [rfOf, hg])), ownsRow_same h.op (fun g hg => hs g (by simp [rfOf, hg])), h.ok⟩
theorem IsRef.keep {fp fq : List Nat} (h : IsRef w r m fp) (hm : Moves fq w w') (hd : ∀ x ∈ fp, x ∉ fq) : IsRef w' r m fp := by
  obtain ⟨ov, pv, h, rfl⟩ := h
  exact ⟨ov, pv, h.same (fun x hx => hm.block x (h.lt x hx) (hd x hx)), rfl⟩
theorem IsRef.grow {fp : List Nat} (h : IsRef w r m fp) (hm : Below w.heap.size w w') : IsRef w' r m fp :=
  h.keep (Moves.of_below [] hm) (fun _ _ => List.not_mem_nil)
theorem IsRef.lt {fp : List Nat} (h : IsRef w r m fp) : ∀ x ∈ fp, x < w.heap.size := by
  obtain ⟨ov, pv, h, rfl⟩ := h
  exact h.lt
theorem IsRef.stays {fp : List Nat} (h : IsRef w r m fp) : RTurned w w r m fp := ⟨fp, h, Moves.refl _ _, fun _ hx => .inl hx⟩

/-- another power -/
theorem RefAt.left (h : RefAt w r m ov pv) (l : Int) (hok : Ok { m with left := l }) : RefAt (w.setCell ⟨r, 2, none⟩ (.int .i64 l)) r { m with left := l } ov pv := by
  have hm : Moves [r] w (w.setCell ⟨r, 2, none⟩ (.int .i64 l)) := Moves.set w r 2 _ (by simp)
  refine ⟨?_, ownsRow_same h.old (fun g hg => hm.block g (h.old.lt g hg).2 (by simp; intro e; subst e; exact h.no hg)), ownsRow_same h.op (fun g hg => hm.block g (h.op.lt g hg).2 (by simp; intro e; subst e; exact h.np hg)), hok⟩
  simp [World.setCell, Array.getElem?_modify, h.blk]
theorem RefAt.goes (h : RefAt w r m ov pv) : RefAt (w.setCell ⟨r, 3, none⟩ (.bool true)) r { m with gone := true } ov pv := by
  have hm : Moves [r] w (w.setCell ⟨r, 3, none⟩ (.bool true)) := Moves.set w r 3 _ (by simp)
  refine ⟨?_, ownsRow_same h.old (fun g hg => hm.block g (h.old.lt g hg).2 (by simp; intro e; subst e; exact h.no hg)), ownsRow_same h.op (fun g hg => hm.block g (h.op.lt g hg).2 (by simp; intro e; subst e; exact h.np hg)), ⟨h.ok.old, h.ok.op, h.ok.left, h.ok.many⟩⟩
  simp [World.setCell, Array.getElem?_modify, h.blk]

/-! Power -/
/-! the power's calls -/
set_option maxHeartbeats 1000000 in
set_option maxRecDepth 20000 in
theorem rspend_now (w : World) (h : RefAt w r m ov pv) (hl : m.left = 0) :
    Calls Tryz.prog 68 #[.pointer (some ⟨r, 0, none⟩)] w fun e w' => e = .returned (.bool false) ∧ RefAt w' r { m with gone := true } ov pv ∧ Moves [r] w w' := by
  have c2 := h.cell2
  rw [hl] at c2
  have c3 := h.cell3
  have f3 := h.free 3
  have HG := hide h.goes
  clear h
  go_enter Tryz.func68, Tryz.ntmps68
  go_wp2
  go_ret
  exact ⟨rfl, unhide HG, Moves.set _ _ _ _ (by simp)⟩
set_option maxHeartbeats 1000000 in
set_option maxRecDepth 20000 in
theorem rspend_any (w : World) (h : RefAt w r m ov pv) (hl : m.left ≠ 0) :
    Calls Tryz.prog 68 #[.pointer (some ⟨r, 0, none⟩)] w fun e w' => e = .returned (.bool true) ∧ RefAt w' r { m with left := spent m.left } ov pv ∧ Moves [r] w w' := by
  have c2 := h.cell2
  have f2 := h.free 2
  by_cases hp : 0 < m.left
  · have hw : IntKind.i64.wrap (m.left - 1) = m.left - 1 := by have := h.ok.left; rw [IntKind.wrap_i64]; omega
    have e1 : spent m.left = m.left - 1 := by unfold spent; rw [if_pos hp]
    rw [e1]
    have hl2 := h.left (m.left - 1) ⟨h.ok.old, h.ok.op, by have := h.ok.left; show -1 ≤ m.left - 1 ∧ m.left - 1 ≤ 9223372036854775807; omega, h.ok.many⟩
    have HL := hide hl2
    clear h hl2 e1
    go_enter Tryz.func68, Tryz.ntmps68
    go_wp2
    go_ret
    exact ⟨rfl, unhide HL, Moves.set _ _ _ _ (by simp)⟩
  · have e1 : spent m.left = m.left := by unfold spent; rw [if_neg hp]
    rw [e1]
    have H := hide h
    clear h e1
    go_enter Tryz.func68, Tryz.ntmps68
    go_wp2
    go_ret
    exact ⟨rfl, unhide H, Moves.refl _ _⟩
end Go.Proofs.YtdelobaiicoogaaGreatDoor.L3

/- The document's disk: Read, Write. -/
namespace Go.Proofs.YtdelobaiicoogaaGreatDoor.L3
open Go.ChangeShapes Go.WideShapes Go.ChangeAt Go.RowKit

variable {r : Nat} {m : Dk} {ov pv : Value}

theorem strs_at (l : List ByteArray) (i : Nat) (h : i < l.length) : (strs l)[i]? = some (.string (l.getD i ByteArray.empty)) := by
  simp [strs, List.getElem?_eq_getElem h]
/-- where a slice's row lies -/
theorem row_some {w : World} {e : TypeId} {size : Nat} {v : Value} {n : Nat} {xs : List Value} (h : w.ownsRow 0 e size v n xs) (hn : 0 < n) : ∃ g cap, v = .slice (some ⟨g, 0, none⟩) n cap ∧ g < w.heap.size ∧ n ≤ cap := by
  rcases h.2 with ⟨_, h0⟩ | ⟨g, cap, cur, rfl, _, hg, hc, _⟩
  · omega
  · exact ⟨g, cap, rfl, (Array.getElem?_eq_some_iff.1 hg).1, hc⟩
theorem row_cell {w : World} {e : TypeId} {size : Nat} {g n cap : Nat} {xs : List Value} (h : w.ownsRow 0 e size (.slice (some ⟨g, 0, none⟩) n cap) n xs) (j : Nat) (u : Value) (hj : xs[j]? = some u) : w.cell? ⟨g, j, none⟩ = some u := by
  have := h.cells (g := g) rfl j u hj
  rw [Go.WideShapes.add_plain, Nat.zero_add] at this
  exact this

set_option maxHeartbeats 1000000 in
set_option maxRecDepth 20000 in
theorem rread_gone (n : Int) (w : World) (h : RefAt w r m ov pv) (hg : m.gone = true) :
    Calls Tryz.prog 141 #[.pointer (some ⟨r, 0, none⟩), .int .i64 n] w fun e w' => e = .returned (.tuple #[.string ByteArray.empty, .int .i64 30]) ∧ w' = w := by
  have c3 := h.cell3
  rw [hg] at c3
  go_enter Tryz.func141, Tryz.ntmps141
  go_wp2
  go_ret2
  exact ⟨rfl, rfl⟩
set_option maxHeartbeats 1000000 in
set_option maxRecDepth 20000 in
theorem rread_out (n : Int) (w : World) (h : RefAt w r m ov pv) (hg : m.gone = false) (hn : n < 0 ∨ (m.old.length : Int) ≤ n) :
    Calls Tryz.prog 141 #[.pointer (some ⟨r, 0, none⟩), .int .i64 n] w fun e w' => e = .returned (.tuple #[.string ByteArray.empty, .int .i64 31]) ∧ w' = w := by
  have c3 := h.cell3
  rw [hg] at c3
  have c0 := h.cell0
  obtain ⟨a, cap, rfl⟩ := ownsRow_form h.old
  by_cases h1 : n < 0
  · go_enter Tryz.func141, Tryz.ntmps141
    go_wp2
    go_ret2
    exact ⟨rfl, rfl⟩
  · have h2 : (m.old.length : Int) ≤ n := by omega
    go_enter Tryz.func141, Tryz.ntmps141
    go_wp2
    go_ret2
    exact ⟨rfl, rfl⟩

set_option maxHeartbeats 2000000 in
set_option maxRecDepth 20000 in
theorem rread_in (n : Int) (w : World) (h : RefAt w r m ov pv) (hg : m.gone = false) (h0 : 0 ≤ n) (h1 : n < (m.old.length : Int)) (hc : m.op.length ≤ 1000000) :
    Calls Tryz.prog 141 #[.pointer (some ⟨r, 0, none⟩), .int .i64 n] w fun e w' => e = .returned (.tuple #[.string ((lastW m.op n.toNat).getD (m.old.getD n.toNat ByteArray.empty)), .int .i64 0]) ∧ w' = w := by
  have c3 := h.cell3
  rw [hg] at c3
  have c0 := h.cell0
  have c1 := h.cell1
  obtain ⟨g, cap, rfl, hgl, hcap⟩ := row_some h.old (by omega)
  obtain ⟨ap, capp, rfl⟩ := ownsRow_form h.op
  have q0 := row_cell h.old n.toNat _ (strs_at m.old n.toNat (by omega))
  have HOP := hide h.op
  have h2 : ¬ n < 0 := by omega
  have h3 : ¬ (m.old.length : Int) ≤ n := by omega
  clear h hgl hcap
  generalize m.old.getD n.toNat ByteArray.empty = s0 at *
  go_enter Tryz.func141, Tryz.ntmps141
  go_wp2_with fail
  go_loopw [6, 7] (fun t j wr => ∃ k : Nat, k ≤ m.op.length ∧ j = .int .i64 (k : Int) ∧ t = .string ((lastW (m.op.take k) n.toNat).getD s0) ∧ wr = w) (fun _ j _ => m.op.length - (intOf j).toNat)
  case atStart => exact ⟨0, Nat.zero_le _, rfl, rfl, rfl⟩
  case round =>
    obtain ⟨k, hk, rfl, rfl, rfl⟩ := hrel
    have hk6 : k ≤ 1000000 := by omega
    by_cases hlt : k < m.op.length
    · have hlt' : (k : Int) < (m.op.length : Int) := by omega
      obtain ⟨gp, capq, ep, _, _⟩ := row_some (unhide HOP) (by omega)
      cases ep
      have q1 := row_cell (unhide HOP) (k * 2) _ (opCells_at m.op k hlt).1
      have q2 := row_cell (unhide HOP) (k * 2 + 1) _ (opCells_at m.op k hlt).2
      have htk : m.op.take (k + 1) = m.op.take k ++ [m.op[k]] := by rw [List.take_add_one, List.getElem?_eq_getElem hlt]; rfl
      have hlw := lastW_snoc (m.op.take k) m.op[k] n.toNat
      rw [← htk] at hlw
      have HLW := hide hlw
      clear htk hlw
      generalize m.op[k].1 = x at *
      generalize m.op[k].2 = s at *
      generalize (lastW (m.op.take k) n.toNat) = L0 at *
      by_cases hx : (x : Int) = n
      · have hxn : x = n.toNat := by omega
        go_wp2
        go_roundw
        case rel =>
          refine ⟨k + 1, by omega, by go_num, ?_, trivial⟩
          rw [unhide HLW, if_pos hxn]
          rfl
        case measure => simp [intOf]; omega
      · have hxn : ¬ x = n.toNat := by omega
        go_wp2
        go_roundw
        case rel =>
          refine ⟨k + 1, by omega, by go_num, ?_, trivial⟩
          rw [unhide HLW, if_neg hxn]
        case measure => simp [intOf]; omega
    · have hlt' : ¬ (k : Int) < (m.op.length : Int) := by omega
      have hkl : m.op.take k = m.op := List.take_of_length_le (by omega)
      rw [hkl]
      clear hkl
      go_wp2
      go_ret2
      exact ⟨rfl, rfl⟩
theorem rread_any (n : Int) (w : World) (h : RefAt w r m ov pv) (hc : m.op.length ≤ 1000000) :
    Calls Tryz.prog 141 #[.pointer (some ⟨r, 0, none⟩), .int .i64 n] w fun e w' => e = .returned (.tuple #[.string (readM m n).1, .int .i64 (readM m n).2]) ∧ w' = w := by
  unfold readM
  cases hg : m.gone with
  | true => exact rread_gone n w h hg
  | false =>
    rw [if_neg (by decide)]
    by_cases hn : n < 0 ∨ (m.old.length : Int) ≤ n
    · rw [if_pos hn]
      exact rread_out n w h hg hn
    · rw [if_neg hn]
      exact rread_in n w h hg (by omega) (by omega) hc
end Go.Proofs.YtdelobaiicoogaaGreatDoor.L3

/- The document's disk: Write. -/
namespace Go.Proofs.YtdelobaiicoogaaGreatDoor.L3
open Go.ChangeShapes Go.WideShapes Go.ChangeAt Go.RowKit

variable {r : Nat} {m : Dk} {ov pv : Value}

theorem info164 : (Tryz.prog.info? 164).map (fun i => (i.zero, i.size, i.bytes)) = some (some (.agg #[.int .i64 0, .string ByteArray.empty]), 2, 24) := by kernel_rfl
theorem info9 : (Tryz.prog.info? 9).map (fun i => (i.zero, i.size, i.bytes)) = some (some (.string ByteArray.empty), 1, 16) := by kernel_rfl

theorem RefAt.written {w w5 : World} {n : Nat} {s : ByteArray} {pv' : Value} (h : RefAt w r m ov pv) (hn : n < m.old.length) (hs : s.size = 1024)
    (hown : w5.ownsRow 0 164 2 pv' (m.op.length + 1) (opCells (m.op ++ [(n, s)]))) (hg5 : w.grownBy w5 pv.ownBlock) (hloc : pv'.ownBlock = pv.ownBlock ∨ ∃ g, pv'.ownBlock = some g ∧ w.heap.size ≤ g) :
    RefAt (w5.setCell ⟨r, 1, none⟩ pv') r { m with op := m.op ++ [(n, s)] } ov pv' ∧ Moves (rfOf r ov pv) w (w5.setCell ⟨r, 1, none⟩ pv') ∧ ∀ x ∈ rfOf r ov pv', x ∈ rfOf r ov pv ∨ w.heap.size ≤ x := by
  have hm5 : Moves (rfOf r ov pv) w w5 := Moves.of_grown hg5 (fun k hk => by simp [rfOf, hk])
  have hm6 : Moves (rfOf r ov pv) w5 (w5.setCell ⟨r, 1, none⟩ pv') := Moves.set _ _ _ _ (by simp [rfOf])
  have hr5 : w5.heap[r]? = w.heap[r]? := hg5.block r h.rlt (fun e => h.np e.symm)
  have hnp : pv'.ownBlock ≠ some r := by
    rcases hloc with e | ⟨g, e, hg⟩
    · rw [e]; exact h.np
    · rw [e]
      have := h.rlt
      simp
      omega
  refine ⟨⟨?_, ?_, ?_, ?_⟩, hm5.then hm6, ?_⟩
  · have hb := hr5.trans h.blk
    simp [World.setCell, Array.getElem?_modify, hb]
  · exact ownsRow_same h.old (fun g hg => (Below.heap_setCell _ _ _ _ (by intro e; exact h.no (by rw [hg, e]))).trans (hg5.block g (h.old.lt g hg).2 (fun e => h.nn g hg e.symm)))
  · show World.ownsRow _ 0 164 2 pv' (m.op ++ [(n, s)]).length _
    rw [List.length_append]
    exact ownsRow_same hown (fun g hg => Below.heap_setCell _ _ _ _ (by intro e; exact hnp (by rw [hg, e])))
  · refine ⟨h.ok.old, ?_, h.ok.left, h.ok.many⟩
    intro p hp
    rcases List.mem_append.1 hp with hp | hp
    · exact h.ok.op p hp
    · simp at hp
      subst hp
      exact ⟨hn, hs⟩
  · intro x hx
    simp [rfOf] at hx ⊢
    rcases hx with rfl | hx | hx
    · simp
    · simp [hx]
    · rcases hloc with e | ⟨g, e, hg⟩
      · rw [e] at hx
        simp [hx]
      · rw [e] at hx
        cases hx
        exact .inr hg

set_option maxHeartbeats 1000000 in
set_option maxRecDepth 20000 in
theorem rwrite_gone (n : Int) (data : ByteArray) (w : World) (h : RefAt w r m ov pv) (hg : m.gone = true) :
    Calls Tryz.prog 36 #[.pointer (some ⟨r, 0, none⟩), .int .i64 n, .string data] w fun e w' => e = .returned (.int .i64 30) ∧ w' = w := by
  have c3 := h.cell3
  rw [hg] at c3
  clear h
  go_enter Tryz.func36, Tryz.ntmps36
  go_wp2
  go_ret
  exact ⟨rfl, rfl⟩
set_option maxHeartbeats 1000000 in
set_option maxRecDepth 20000 in
theorem rwrite_out (n : Int) (data : ByteArray) (w : World) (h : RefAt w r m ov pv) (hg : m.gone = false) (hn : n < 0 ∨ (m.old.length : Int) ≤ n) :
    Calls Tryz.prog 36 #[.pointer (some ⟨r, 0, none⟩), .int .i64 n, .string data] w fun e w' => (m.left = 0 → e = .returned (.int .i64 30) ∧ w' = w.setCell ⟨r, 3, none⟩ (.bool true)) ∧ (m.left ≠ 0 → e = .returned (.int .i64 31) ∧ w' = w) := by
  have c3 := h.cell3
  rw [hg] at c3
  have c2 := h.cell2
  have c0 := h.cell0
  have f3 := h.free 3
  obtain ⟨a, cap, rfl⟩ := ownsRow_form h.old
  clear h
  by_cases hl : m.left = 0
  · rw [hl] at c2
    by_cases h1 : n < 0
    · go_enter Tryz.func36, Tryz.ntmps36
      go_wp2
      go_ret
      first | exact ⟨rfl, rfl⟩ | exact ⟨fun _ => ⟨rfl, rfl⟩, fun h => absurd hl h⟩
    · have h2 : (m.old.length : Int) ≤ n := by omega
      go_enter Tryz.func36, Tryz.ntmps36
      go_wp2
      go_ret
      first | exact ⟨rfl, rfl⟩ | exact ⟨fun _ => ⟨rfl, rfl⟩, fun h => absurd hl h⟩
  · by_cases h1 : n < 0
    · go_enter Tryz.func36, Tryz.ntmps36
      go_wp2
      go_ret
      first | exact ⟨rfl, rfl⟩ | exact ⟨fun h => absurd h hl, fun _ => ⟨rfl, rfl⟩⟩
    · have h2 : (m.old.length : Int) ≤ n := by omega
      go_enter Tryz.func36, Tryz.ntmps36
      go_wp2
      go_ret
      first | exact ⟨rfl, rfl⟩ | exact ⟨fun h => absurd h hl, fun _ => ⟨rfl, rfl⟩⟩
set_option maxHeartbeats 1000000 in
set_option maxRecDepth 20000 in
theorem rwrite_size (n : Int) (data : ByteArray) (w : World) (h : RefAt w r m ov pv) (hg : m.gone = false) (h0 : 0 ≤ n) (h1 : n < (m.old.length : Int)) (hs : data.size ≠ 1024) :
    Calls Tryz.prog 36 #[.pointer (some ⟨r, 0, none⟩), .int .i64 n, .string data] w fun e w' => (m.left = 0 → e = .returned (.int .i64 30) ∧ w' = w.setCell ⟨r, 3, none⟩ (.bool true)) ∧ (m.left ≠ 0 → e = .returned (.int .i64 32) ∧ w' = w) := by
  have c3 := h.cell3
  rw [hg] at c3
  have c2 := h.cell2
  have c0 := h.cell0
  have f3 := h.free 3
  obtain ⟨a, cap, rfl⟩ := ownsRow_form h.old
  have h2 : ¬ n < 0 := by omega
  have h3 : ¬ (m.old.length : Int) ≤ n := by omega
  have hs' : (data.size : Int) ≠ 1024 := by omega
  clear h
  by_cases hl : m.left = 0
  · rw [hl] at c2
    go_enter Tryz.func36, Tryz.ntmps36
    go_wp2
    go_ret
    first | exact ⟨rfl, rfl⟩ | exact ⟨fun _ => ⟨rfl, rfl⟩, fun h => absurd hl h⟩
  · go_enter Tryz.func36, Tryz.ntmps36
    go_wp2
    go_ret
    first | exact ⟨rfl, rfl⟩ | exact ⟨fun h => absurd h hl, fun _ => ⟨rfl, rfl⟩⟩
set_option maxHeartbeats 1000000 in
set_option maxRecDepth 20000 in
theorem rwrite_now (n : Int) (data : ByteArray) (w : World) (h : RefAt w r m ov pv) (hg : m.gone = false) (h0 : 0 ≤ n) (h1 : n < (m.old.length : Int)) (hs : data.size = 1024) (hl : m.left = 0) :
    Calls Tryz.prog 36 #[.pointer (some ⟨r, 0, none⟩), .int .i64 n, .string data] w fun e w' => e = .returned (.int .i64 30) ∧ RefAt w' r { m with gone := true } ov pv ∧ Moves [r] w w' := by
  have c3 := h.cell3
  rw [hg] at c3
  have c0 := h.cell0
  have H := hide h
  obtain ⟨a, cap, rfl⟩ := ownsRow_form h.old
  have h2 : ¬ n < 0 := by omega
  have h3 : ¬ (m.old.length : Int) ≤ n := by omega
  have hs' : (data.size : Int) = 1024 := by omega
  have HL := hide hl
  clear h hl hs
  go_enter Tryz.func36, Tryz.ntmps36
  go_wp2_with (go_at_call 68; refine (rspend_now _ (unhide H) (unhide HL)).mono ?_; rintro e w1 ⟨rfl, hA, hm⟩)
  go_ret
  exact ⟨rfl, hA, hm⟩
set_option maxHeartbeats 2000000 in
set_option maxRecDepth 20000 in
theorem rwrite_ok (n : Int) (data : ByteArray) (w : World) (h : RefAt w r m ov pv) (hg : m.gone = false) (h0 : 0 ≤ n) (h1 : n < (m.old.length : Int)) (hs : data.size = 1024) (hl : m.left ≠ 0) (hc : m.op.length ≤ 1000000) :
    Calls Tryz.prog 36 #[.pointer (some ⟨r, 0, none⟩), .int .i64 n, .string data] w fun e w' => e = .returned (.int .i64 0) ∧
      ∃ pv', RefAt w' r { m with left := spent m.left, op := m.op ++ [(n.toNat, data)] } ov pv' ∧ Moves (rfOf r ov pv) w w' ∧ ∀ x ∈ rfOf r ov pv', x ∈ rfOf r ov pv ∨ w.heap.size ≤ x := by
  have c3 := h.cell3
  rw [hg] at c3
  have c0 := h.cell0
  have H := hide h
  obtain ⟨a, cap, rfl⟩ := ownsRow_form h.old
  have h2 : ¬ n < 0 := by omega
  have h3 : ¬ (m.old.length : Int) ≤ n := by omega
  have hs' : (data.size : Int) = 1024 := by omega
  have hnn : n.toNat < m.old.length := by omega
  have en : ((n.toNat : Nat) : Int) = n := Int.toNat_of_nonneg h0
  have HNN := hide hnn
  have EN := hide en
  have HL := hide hl
  have HO := hide hc
  have HS := hide hs
  have HG := hide hg
  clear h hl hs hnn en hc hg
  go_enter Tryz.func36, Tryz.ntmps36
  go_wp2_with (first
    | (go_at_call 68; refine (rspend_any _ (unhide H) (unhide HL)).mono ?_; rintro e w1 ⟨rfl, hA, hm⟩; have k1 := hA.cell1; have HA := hide hA; have HM := hide hm; clear hA hm)
    | (at_builtin; refine app_gen (v := pv) (news := [.int .i64 n, .string data]) Tryz.underlying64 info164 rfl (by decide) rfl _ _ rfl rfl rfl (unhide HA).op (Nat.zero_le _) rfl (by intro u hu; simp at hu; rcases hu with rfl | rfl <;> rfl) (by have := unhide HO; show (m.op.length + 1) * 24 ≤ _; omega) (by have := unhide HO; show m.op.length + 1 ≤ _; omega) ?_; intro a5 cap5 w5 hown5 hg5 hloc; have hc5 := hg5.cell k1 (by have := (unhide HA).np; exact fun e => this e.symm); have hfr : w5.frozen? ⟨r, 1, none⟩ = false := (grown_frozen hg5 (unhide HA).rlt (by have := (unhide HA).np; exact fun e => this e.symm) 1).trans ((unhide HA).free 1); have HX := hide (And.intro hown5 (And.intro hg5 hloc)); clear hown5 hg5 hloc)
    | go_in)
  go_ret
  obtain ⟨hown5, hg5, hloc⟩ := unhide HX
  have hown6 : w5.ownsRow 0 164 2 (.slice a5 (m.op.length + 1) cap5) (m.op.length + 1) (opCells (m.op ++ [(n.toNat, data)])) := by
    rw [opCells_snoc]
    show w5.ownsRow 0 164 2 (.slice a5 (m.op.length + 1) cap5) (m.op.length + 1) (opCells m.op ++ [.int .i64 ((n.toNat : Nat) : Int), .string data])
    rw [unhide EN]
    exact hown5
  obtain ⟨r1, r2, r3⟩ := (unhide HA).written (unhide HNN) (unhide HS) hown6 hg5 hloc
  have hm := unhide HM
  refine ⟨rfl, _, r1, (hm.mono (fun x hx => .inl (by simp at hx; simp [rfOf, hx]))).then r2, fun x hx => ?_⟩
  rcases r3 x hx with h | h
  · exact .inl h
  · exact .inr (Nat.le_trans hm.size h)

theorem rwrite_any (n : Int) (data : ByteArray) (fp : List Nat) (w : World) (h0 : IsRef w r m fp) (hc : m.op.length ≤ 1000000) :
    Calls Tryz.prog 36 #[.pointer (some ⟨r, 0, none⟩), .int .i64 n, .string data] w fun e w' => e = .returned (.int .i64 (writeE m n data)) ∧ RTurned w w' r (writeM m n data) fp := by
  have h0' := h0.stays
  obtain ⟨ov, pv, h, rfl⟩ := h0
  unfold writeE writeM
  cases hg : m.gone with
  | true =>
    refine (rwrite_gone n data w h hg).mono ?_
    rintro e w' ⟨rfl, rfl⟩
    exact ⟨rfl, h0'⟩
  | false =>
    simp only [Bool.false_eq_true, if_false]
    have hgo : RTurned w (w.setCell ⟨r, 3, none⟩ (.bool true)) r { m with gone := true } (rfOf r ov pv) := ⟨_, ⟨ov, pv, h.goes, rfl⟩, Moves.set _ _ _ _ (by simp [rfOf]), fun _ hx => .inl hx⟩
    by_cases hn : n < 0 ∨ (m.old.length : Int) ≤ n
    · refine (rwrite_out n data w h hg hn).mono ?_
      rintro e w' ⟨r1, r2⟩
      by_cases hl : m.left = 0
      · obtain ⟨rfl, rfl⟩ := r1 hl
        rw [if_pos hl, if_pos hl]
        exact ⟨rfl, hgo⟩
      · obtain ⟨rfl, rfl⟩ := r2 hl
        rw [if_neg hl, if_neg hl, if_pos hn, if_pos hn]
        exact ⟨rfl, h0'⟩
    · by_cases hs : data.size = 1024
      · by_cases hl : m.left = 0
        · rw [if_pos hl, if_pos hl]
          refine (rwrite_now n data w h hg (by omega) (by omega) hs hl).mono ?_
          rintro e w' ⟨rfl, hA, hm⟩
          exact ⟨rfl, _, ⟨ov, pv, hA, rfl⟩, hm.mono (fun x hx => .inl (by simp at hx; simp [rfOf, hx])), fun _ hx => .inl hx⟩
        · rw [if_neg hl, if_neg hl, if_neg hn, if_neg hn, if_neg (by omega), if_neg (by omega)]
          refine (rwrite_ok n data w h hg (by omega) (by omega) hs hl hc).mono ?_
          rintro e w' ⟨rfl, pv', r1, r2, r3⟩
          rw [hg] at r1
          exact ⟨rfl, _, ⟨ov, pv', r1, rfl⟩, r2, r3⟩
      · refine (rwrite_size n data w h hg (by omega) (by omega) hs).mono ?_
        rintro e w' ⟨r1, r2⟩
        by_cases hl : m.left = 0
        · obtain ⟨rfl, rfl⟩ := r1 hl
          rw [if_pos hl, if_pos hl]
          exact ⟨rfl, hgo⟩
        · obtain ⟨rfl, rfl⟩ := r2 hl
          rw [if_neg hl, if_neg hl, if_neg hn, if_neg hn, if_pos hs, if_pos hs]
          exact ⟨rfl, h0'⟩
end Go.Proofs.YtdelobaiicoogaaGreatDoor.L3
