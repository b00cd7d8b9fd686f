/- Where the document's Split stands, round by round. -/
import Derived.Test.YtepkifledonldaaRefduo
namespace Go.Proofs.Ytepkifledonldaa
open Go.ChangeShapes Go.WideShapes Go.ChangeAt Go.RowKit

structure StdI (w1 : World) (its : List It) (q k : Nat) (v : Value) (cur : List It) (ps : List (Pt ByteArray)) (a : Option Addr) (c : Nat) (b : Option Addr) (d : Nat) (wr : World) : Prop where
  one : Nblk wr q true a cur.length c b 0 d
  two : Two (q + 1) wr a cur c b [] d
  out : OwnP Value.string 47 pcI (q + 1) wr v ps
  bel : Below w1.heap.size w1 wr
  cut : Cut.parts itL [] its = ps.map (fun x => x.l) ++ Cut.parts itL cur (its.drop k)
  few : ps.length ≤ k
  cl : cur.length ≤ k
  my : ∀ x ∈ cur, mayI x = true
  low : w1.heap.size ≤ q
section
variable {w1 wr w4 w5 : World} {its cur : List It} {q k m la c d : Nat} {v v' : Value} {ps : List (Pt ByteArray)} {a b : Option Addr} {x : It}
theorem StdI.start (w1 : World) (its : List It) : StdI w1 its w1.heap.size 0 (.slice none 0 0) [] [] none 0 none 0 (w1.alloc (.cells #[.bool true, .slice none 0 0, .slice none 0 0] 25)) :=
  ⟨Nblk.new w1 true none none 0 0 0 0, ⟨World.ownsRow_nil _ _ _ _, World.ownsRow_nil _ _ _ _⟩, OwnP.nil, below_alloc _ _, rfl, Nat.le_refl _, Nat.le_refl _, (fun x hx => by cases hx), Nat.le_refl _⟩
theorem DuoI.below {l1 l2 : List It} {w w' : World} (h : DuoI wr m la l1 l2 w) (hb : Below w.heap.size w w') : DuoI wr m la l1 l2 w' := by
  obtain ⟨a1, c1, b1, d1, a2, c2, h1, h2, h3, h4, h5, h6⟩ := h
  exact ⟨a1, c1, b1, d1, a2, c2, h1.below hb, h2.below hb, h3.below hb, h4.below hb, below_then h5 hb, h6⟩
theorem StdI.cutoff {a2 : Option Addr} {c2 : Nat} (h : StdI w1 its q k v cur ps a c b d wr) (hx : its[k]? = some x) (hmy : mayI x = true) (big : 1007 < Cut.size itL (cur ++ [x])) (hb : Below wr.heap.size wr w4)
    (o2 : OwnE Value.string 47 wr.heap.size w4 (.slice a2 1 c2) [x]) (hg : w4.grownBy w5 v.ownBlock) (hr : w5.ownsRow (q + 1) 25 3 v' (ps.length + 1) (ps.flatMap pcI ++ pcI ⟨a, c, b, d, cur⟩)) :
    StdI w1 its q (k + 1) v' [x] (ps ++ [⟨a, c, b, d, cur⟩]) a2 c2 none 0 (((w5.setCell ⟨q, 0, none⟩ (.bool true)).setCell ⟨q, 1, none⟩ (.slice a2 1 c2)).setCell ⟨q, 2, none⟩ (.slice none 0 0)) := by
  have ho := h.out.below hb
  have hq : q < wr.heap.size := h.one.lt
  have n1 : Nblk w5 q true a cur.length c b 0 d := (h.one.below hb).grown hg (fun e => by have := (World.ownsRow.lt ho.row q e).1; omega)
  have hp := OwnP.snoc (x := ⟨a, c, b, d, cur⟩) ho (by decide) (h.two.i.below hb) hg hr
  have o5 : OwnE Value.string 47 (q + 1) w5 (.slice a2 1 c2) [x] := (o2.kept (by decide) ho hg).base hq
  have hbel : Below w1.heap.size w1 w5 := (h.bel.trans (hb.mono h.bel.size)).grown hg (Nat.le_trans h.bel.size hb.size) (fun g hgg => by have := (World.ownsRow.lt ho.row g hgg).1; have := h.low; omega)
  refine ⟨n1.set3 _ _ _ _ _ _ _, ⟨((o5.setq (Nat.lt_succ_self q) _ _).setq (Nat.lt_succ_self q) _ _).setq (Nat.lt_succ_self q) _ _, World.ownsRow_nil _ _ _ _⟩, ((hp.setq (Nat.lt_succ_self q) _ _).setq (Nat.lt_succ_self q) _ _).setq (Nat.lt_succ_self q) _ _, ((hbel.setCell (p := ⟨q, 0, none⟩) h.low _).setCell (p := ⟨q, 1, none⟩) h.low _).setCell (p := ⟨q, 2, none⟩) h.low _, ?_, ?_, ?_, ?_, h.low⟩
  · rw [h.cut, drop_get hx, Cut.parts, if_pos big, List.map_append]
    simp
  · have := h.few
    simp
    omega
  · simp
  · intro y hy
    simp at hy
    subst hy
    exact hmy
theorem StdI.goon {a1 b1 : Option Addr} {c1 d1 : Nat} (h : StdI w1 its q k v cur ps a c b d wr) (hx : its[k]? = some x) (hmy : mayI x = true) (big : ¬ 1007 < Cut.size itL (cur ++ [x])) (hb : Below wr.heap.size wr w4)
    (t1 : Two wr.heap.size w4 a1 (cur ++ [x]) c1 b1 [] d1) :
    StdI w1 its q (k + 1) v (cur ++ [x]) ps a1 c1 b1 d1 (((w4.setCell ⟨q, 0, none⟩ (.bool true)).setCell ⟨q, 1, none⟩ (.slice a1 (cur ++ [x]).length c1)).setCell ⟨q, 2, none⟩ (.slice b1 0 d1)) := by
  have ho := h.out.below hb
  have hq : q < wr.heap.size := h.one.lt
  have n1 := h.one.below hb
  have t2 := t1.base hq
  have hbel : Below w1.heap.size w1 w4 := h.bel.trans (hb.mono h.bel.size)
  refine ⟨n1.set3 _ _ _ _ _ _ _, ⟨((t2.i.setq (Nat.lt_succ_self q) _ _).setq (Nat.lt_succ_self q) _ _).setq (Nat.lt_succ_self q) _ _, ((t2.k.setq (Nat.lt_succ_self q) _ _).setq (Nat.lt_succ_self q) _ _).setq (Nat.lt_succ_self q) _ _⟩, ((ho.setq (Nat.lt_succ_self q) _ _).setq (Nat.lt_succ_self q) _ _).setq (Nat.lt_succ_self q) _ _, ((hbel.setCell (p := ⟨q, 0, none⟩) h.low _).setCell (p := ⟨q, 1, none⟩) h.low _).setCell (p := ⟨q, 2, none⟩) h.low _, ?_, ?_, ?_, ?_, h.low⟩
  · rw [h.cut, drop_get hx, Cut.parts, if_neg big]
  · have := h.few
    omega
  · have := h.cl
    simp
    omega
  · intro y hy
    rcases List.mem_append.1 hy with hy | hy
    · exact h.my y hy
    · simp at hy
      subst hy
      exact hmy
theorem bytes_szI (ai ak : Option Addr) (ci ck : Nat) (l : List It) (w : World) (hr : Row Value.string w ai l) (hl : l.length ≤ 1100) (hm : ∀ x ∈ l, mayI x = true) :
    Calls Try.prog 24 #[.agg #[.bool true, .slice ai l.length ci, .slice ak 0 ck]] w fun e w' => ∃ S : ByteArray, e = .returned (.string S) ∧ S.size = Cut.size itL l ∧ Below w.heap.size w w' :=
  (refBytesI ai ak ci ck l w hr hl hm).mono (fun e w' ⟨h1, h2⟩ => ⟨_, h1, by
    rw [strOf_size, List.length_cons, List.length_append]
    unfold Cut.size sz
    omega, h2⟩)
end
structure StdK (w1 : World) (its : List Kd) (q k : Nat) (v : Value) (cur : List Kd) (ps : List (Pt Int)) (a : Option Addr) (c : Nat) (b : Option Addr) (d : Nat) (wr : World) : Prop where
  one : Nblk wr q false b 0 d a cur.length c
  two : Two (q + 1) wr b [] d a cur c
  out : OwnP kv 49 pcK (q + 1) wr v ps
  bel : Below w1.heap.size w1 wr
  cut : Cut.parts kdL [] its = ps.map (fun x => x.l) ++ Cut.parts kdL cur (its.drop k)
  few : ps.length ≤ k
  cl : cur.length ≤ k
  my : ∀ x ∈ cur, mayK x = true
  low : w1.heap.size ≤ q
section
variable {w1 wr w4 w5 : World} {its cur : List Kd} {q k m la c d : Nat} {v v' : Value} {ps : List (Pt Int)} {a b : Option Addr} {x : Kd}
theorem StdK.start (w1 : World) (its : List Kd) : StdK w1 its w1.heap.size 0 (.slice none 0 0) [] [] none 0 none 0 (w1.alloc (.cells #[.bool false, .slice none 0 0, .slice none 0 0] 25)) :=
  ⟨Nblk.new w1 false none none 0 0 0 0, ⟨World.ownsRow_nil _ _ _ _, World.ownsRow_nil _ _ _ _⟩, OwnP.nil, below_alloc _ _, rfl, Nat.le_refl _, Nat.le_refl _, (fun x hx => by cases hx), Nat.le_refl _⟩
theorem DuoK.below {l1 l2 : List Kd} {w w' : World} (h : DuoK wr m la l1 l2 w) (hb : Below w.heap.size w w') : DuoK wr m la l1 l2 w' := by
  obtain ⟨a1, c1, b1, d1, a2, c2, h1, h2, h3, h4, h5, h6⟩ := h
  exact ⟨a1, c1, b1, d1, a2, c2, h1.below hb, h2.below hb, h3.below hb, h4.below hb, below_then h5 hb, h6⟩
theorem StdK.cutoff {a2 : Option Addr} {c2 : Nat} (h : StdK w1 its q k v cur ps a c b d wr) (hx : its[k]? = some x) (hmy : mayK x = true) (big : 1007 < Cut.size kdL (cur ++ [x])) (hb : Below wr.heap.size wr w4)
    (o2 : OwnE kv 49 wr.heap.size w4 (.slice a2 1 c2) [x]) (hg : w4.grownBy w5 v.ownBlock) (hr : w5.ownsRow (q + 1) 25 3 v' (ps.length + 1) (ps.flatMap pcK ++ pcK ⟨a, c, b, d, cur⟩)) :
    StdK w1 its q (k + 1) v' [x] (ps ++ [⟨a, c, b, d, cur⟩]) a2 c2 none 0 (((w5.setCell ⟨q, 0, none⟩ (.bool false)).setCell ⟨q, 1, none⟩ (.slice none 0 0)).setCell ⟨q, 2, none⟩ (.slice a2 1 c2)) := by
  have ho := h.out.below hb
  have hq : q < wr.heap.size := h.one.lt
  have n1 : Nblk w5 q false b 0 d a cur.length c := (h.one.below hb).grown hg (fun e => by have := (World.ownsRow.lt ho.row q e).1; omega)
  have hp := OwnP.snoc (x := ⟨a, c, b, d, cur⟩) ho (by decide) (h.two.k.below hb) hg hr
  have o5 : OwnE kv 49 (q + 1) w5 (.slice a2 1 c2) [x] := (o2.kept (by decide) ho hg).base hq
  have hbel : Below w1.heap.size w1 w5 := (h.bel.trans (hb.mono h.bel.size)).grown hg (Nat.le_trans h.bel.size hb.size) (fun g hgg => by have := (World.ownsRow.lt ho.row g hgg).1; have := h.low; omega)
  refine ⟨n1.set3 _ _ _ _ _ _ _, ⟨World.ownsRow_nil _ _ _ _, ((o5.setq (Nat.lt_succ_self q) _ _).setq (Nat.lt_succ_self q) _ _).setq (Nat.lt_succ_self q) _ _⟩, ((hp.setq (Nat.lt_succ_self q) _ _).setq (Nat.lt_succ_self q) _ _).setq (Nat.lt_succ_self q) _ _, ((hbel.setCell (p := ⟨q, 0, none⟩) h.low _).setCell (p := ⟨q, 1, none⟩) h.low _).setCell (p := ⟨q, 2, none⟩) h.low _, ?_, ?_, ?_, ?_, h.low⟩
  · rw [h.cut, drop_get hx, Cut.parts, if_pos big, List.map_append]
    simp
  · have := h.few
    simp
    omega
  · simp
  · intro y hy
    simp at hy
    subst hy
    exact hmy
theorem StdK.goon {a1 b1 : Option Addr} {c1 d1 : Nat} (h : StdK w1 its q k v cur ps a c b d wr) (hx : its[k]? = some x) (hmy : mayK x = true) (big : ¬ 1007 < Cut.size kdL (cur ++ [x])) (hb : Below wr.heap.size wr w4)
    (t1 : Two wr.heap.size w4 b1 [] d1 a1 (cur ++ [x]) c1) :
    StdK w1 its q (k + 1) v (cur ++ [x]) ps a1 c1 b1 d1 (((w4.setCell ⟨q, 0, none⟩ (.bool false)).setCell ⟨q, 1, none⟩ (.slice b1 0 d1)).setCell ⟨q, 2, none⟩ (.slice a1 (cur ++ [x]).length c1)) := by
  have ho := h.out.below hb
  have hq : q < wr.heap.size := h.one.lt
  have n1 := h.one.below hb
  have t2 := t1.base hq
  have hbel : Below w1.heap.size w1 w4 := h.bel.trans (hb.mono h.bel.size)
  refine ⟨n1.set3 _ _ _ _ _ _ _, ⟨((t2.i.setq (Nat.lt_succ_self q) _ _).setq (Nat.lt_succ_self q) _ _).setq (Nat.lt_succ_self q) _ _, ((t2.k.setq (Nat.lt_succ_self q) _ _).setq (Nat.lt_succ_self q) _ _).setq (Nat.lt_succ_self q) _ _⟩, ((ho.setq (Nat.lt_succ_self q) _ _).setq (Nat.lt_succ_self q) _ _).setq (Nat.lt_succ_self q) _ _, ((hbel.setCell (p := ⟨q, 0, none⟩) h.low _).setCell (p := ⟨q, 1, none⟩) h.low _).setCell (p := ⟨q, 2, none⟩) h.low _, ?_, ?_, ?_, ?_, h.low⟩
  · rw [h.cut, drop_get hx, Cut.parts, if_neg big]
  · have := h.few
    omega
  · have := h.cl
    simp
    omega
  · intro y hy
    rcases List.mem_append.1 hy with hy | hy
    · exact h.my y hy
    · simp at hy
      subst hy
      exact hmy
theorem bytes_szK (ai ak : Option Addr) (ci ck : Nat) (l : List Kd) (w : World) (hr : Row kv w ak l) (hl : l.length ≤ 1100) (hm : ∀ x ∈ l, mayK x = true) :
    Calls Try.prog 24 #[.agg #[.bool false, .slice ai 0 ci, .slice ak l.length ck]] w fun e w' => ∃ S : ByteArray, e = .returned (.string S) ∧ S.size = Cut.size kdL l ∧ Below w.heap.size w w' :=
  (refBytesK ai ak ci ck l w hr hl hm).mono (fun e w' ⟨h1, h2⟩ => ⟨_, h1, by
    rw [strOf_size, List.length_cons, List.length_append]
    unfold Cut.size sz
    omega, h2⟩)
end
end Go.Proofs.Ytepkifledonldaa
