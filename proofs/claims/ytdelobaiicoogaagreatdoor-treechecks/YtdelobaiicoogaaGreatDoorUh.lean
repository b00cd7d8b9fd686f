/- usual: how the leaf as it was, and as it is now, are drafts. -/
import Derived.Test.YtdelobaiicoogaaGreatDoorMbn
namespace Go.Proofs.YtdelobaiicoogaaGreatDoor
open Go.ChangeShapes Go.WideShapes Go.ChangeAt Go.RowKit
attribute [local go_sem] Oper.semAt_some

/-- a draft without anything -/
def Zd (W : World) (b : Nat) : Prop := W.heap[b]? = some (.cells #[.bool false, .slice none 0 0] 190 (0, 0))
theorem Zd.new (W : World) : Zd (W.alloc (.cells #[.bool false, .slice none 0 0] 190)) W.heap.size := heap_alloc_new W _
theorem Zd.newd (W : World) : Zd ((W.alloc (.cells #[.bool false, .slice none 0 0] 190)).drew) W.heap.size := Zd.new W
theorem Zd.newd1 (W : World) (o : Obj) : Zd (((W.alloc o).alloc (.cells #[.bool false, .slice none 0 0] 190)).drew) (W.heap.size + 1) := by
  have h := Zd.new (W.alloc o)
  rw [World.size_alloc] at h
  exact h
theorem Zd.drew {W : World} {b : Nat} (h : Zd W b) : Zd W.drew b := h
theorem ne_succ_of {W : World} {a : Nat} (_ : Zd W (a + 1)) : a ≠ a + 1 := by omega
theorem Zd.set {W : World} {b x : Nat} (h : Zd W b) (hne : x ≠ b) (i : Nat) (u : Value) : Zd (W.setCell ⟨x, i, none⟩ u) b := (Below.heap_setCell _ _ _ b (fun e => hne e.symm)).trans h
theorem Zd.new1 (W : World) (o : Obj) : Zd ((W.alloc o).alloc (.cells #[.bool false, .slice none 0 0] 190)) (W.heap.size + 1) := by
  have h := Zd.new (W.alloc o)
  rw [World.size_alloc] at h
  exact h
theorem Zd.lt {W : World} {b : Nat} (h : Zd W b) : b < W.heap.size := (Array.getElem?_eq_some_iff.1 h).1
theorem Zd.grow {W W' : World} {b : Nat} (h : Zd W b) (hb : Below W.heap.size W W') : Zd W' b := (hb.block b h.lt).trans h
theorem Zd.alloc {W : World} {b : Nat} (h : Zd W b) (o : Obj) : Zd (W.alloc o) b := h.grow (below_alloc W o)
theorem Zd.ne {W : World} {b : Nat} (h : Zd W b) : b ≠ W.heap.size := fun e => by have := h.lt; omega
theorem Zd.c0 {W : World} {b : Nat} (h : Zd W b) : W.cell? ⟨b, 0, none⟩ = some (.bool false) := (blk_facts h).1 0 _ rfl
theorem Zd.c1 {W : World} {b : Nat} (h : Zd W b) : W.cell? ⟨b, 1, none⟩ = some (.slice none 0 0) := (blk_facts h).1 1 _ rfl
theorem Zd.fr {W : World} {b : Nat} (h : Zd W b) (i : Nat) : W.frozen? ⟨b, i, none⟩ = false := (blk_facts h).2 i

theorem Kd.store {W : World} {b : Nat} {t : TypeId} (h : Kd W b t) (x i : Nat) (u : Value) : Kd (W.setCell ⟨x, i, none⟩ u) b t := by
  obtain ⟨cs, h⟩ := h
  by_cases e : x = b
  · subst e
    exact ⟨cs.setIfInBounds i u, by simp [World.setCell, Array.getElem?_modify, h]⟩
  · exact ⟨cs, (Below.heap_setCell _ _ _ b (fun q => e q.symm)).trans h⟩
theorem OwnD.store {B b : Nat} {W : World} {v : Value} {l : List L6.It} (h : OwnD B W v l) (hk : Kd W b 190) (i : Nat) (u : Value) : OwnD B (W.setCell ⟨b, i, none⟩ u) v l :=
  ownsRow_setCell_other h (fun e => by
    have h1 : Kd W b 192 := L6.ownsRow_kind h e
    exact absurd (h1.one hk) (by decide)) u
theorem Zd.kd {W : World} {b : Nat} (h : Zd W b) : Kd W b 190 := ⟨_, h⟩
/-- both drafts in their variables -/
def Dr (B : Nat) (its l' : List L6.It) (V : World) (b3 b4 : Nat) (a1 : Option Addr) (c1 : Nat) (a2 : Option Addr) (c2 : Nat) : Prop :=
  V.cell? ⟨b3, 0, none⟩ = some (.bool true) ∧ V.cell? ⟨b3, 1, none⟩ = some (.slice a1 its.length c1) ∧ V.cell? ⟨b4, 0, none⟩ = some (.bool true) ∧ V.cell? ⟨b4, 1, none⟩ = some (.slice a2 l'.length c2) ∧ OwnD B V (.slice a1 its.length c1) its ∧ OwnD B V (.slice a2 l'.length c2) l'
variable {B : Nat} {its l' : List L6.It} {a1 a2 : Option Addr} {c1 c2 : Nat}
theorem two_new (W : World) (x y : Array Value) (t : TypeId) : ((W.alloc (.cells x t)).alloc (.cells y t)).heap[W.heap.size]? = some (.cells x t (0, 0)) ∧ ((W.alloc (.cells x t)).alloc (.cells y t)).heap[W.heap.size + 1]? = some (.cells y t (0, 0)) := by
  refine ⟨((below_alloc _ _).block W.heap.size (by rw [World.size_alloc]; omega)).trans (heap_alloc_new W _), ?_⟩
  have h := heap_alloc_new (W.alloc (.cells x t)) (.cells y t)
  rw [World.size_alloc] at h
  exact h
theorem Dr.lit (W : World) (o1 : OwnD B W (.slice a1 its.length c1) its) (o2 : OwnD B W (.slice a2 l'.length c2) l') : Dr B its l' ((W.alloc (.cells #[.bool true, .slice a1 its.length c1] 190)).alloc (.cells #[.bool true, .slice a2 l'.length c2] 190)) W.heap.size (W.heap.size + 1) a1 c1 a2 c2 := by
  obtain ⟨h1, h2⟩ := two_new W #[.bool true, .slice a1 its.length c1] #[.bool true, .slice a2 l'.length c2] 190
  have hb := below_then (below_alloc W (.cells #[.bool true, .slice a1 its.length c1] 190)) (below_alloc _ (.cells #[.bool true, .slice a2 l'.length c2] 190))
  exact ⟨(blk_facts h1).1 0 _ rfl, (blk_facts h1).1 1 _ rfl, (blk_facts h2).1 0 _ rfl, (blk_facts h2).1 1 _ rfl, o1.grow hb, o2.grow hb⟩
theorem Dr.lit2 (W : World) (o1 : OwnD B W (.slice a1 its.length c1) its) (o2 : OwnD B W (.slice a2 l'.length c2) l') : Dr B its l' ((W.alloc (.cells #[.bool true, .slice a2 l'.length c2] 190)).alloc (.cells #[.bool true, .slice a1 its.length c1] 190)) (W.heap.size + 1) W.heap.size a1 c1 a2 c2 := by
  obtain ⟨h1, h2⟩ := two_new W #[.bool true, .slice a2 l'.length c2] #[.bool true, .slice a1 its.length c1] 190
  have hb := below_then (below_alloc W (.cells #[.bool true, .slice a2 l'.length c2] 190)) (below_alloc _ (.cells #[.bool true, .slice a1 its.length c1] 190))
  exact ⟨(blk_facts h2).1 0 _ rfl, (blk_facts h2).1 1 _ rfl, (blk_facts h1).1 0 _ rfl, (blk_facts h1).1 1 _ rfl, o1.grow hb, o2.grow hb⟩
theorem cell_off {W : World} {b i x j : Nat} {u v : Value} (h : W.cell? ⟨b, i, none⟩ = some u) (hn : x ≠ b ∨ j ≠ i) : (W.setCell ⟨x, j, none⟩ v).cell? ⟨b, i, none⟩ = some u := by
  refine (World.cell?_setCell_other _ _ _ _ (fun e => ?_)).trans h
  injection e with e1 e2
  rcases hn with q | q
  · exact q e1
  · exact q e2
theorem Dr.four (W : World) {b3 b4 : Nat} (h3 : Zd W b3) (h4 : Zd W b4) (hne : b3 ≠ b4) (o1 : OwnD B W (.slice a1 its.length c1) its) (o2 : OwnD B W (.slice a2 l'.length c2) l') :
    Dr B its l' ((((W.setCell ⟨b3, 0, none⟩ (.bool true)).setCell ⟨b3, 1, none⟩ (.slice a1 its.length c1)).setCell ⟨b4, 0, none⟩ (.bool true)).setCell ⟨b4, 1, none⟩ (.slice a2 l'.length c2)) b3 b4 a1 c1 a2 c2 := by
  refine ⟨?_, ?_, ?_, ?_, ?_, ?_⟩
  · exact cell_off (cell_off (cell_off (World.cell?_setCell_same _ _ _ h3.c0) (.inr (by decide))) (.inl hne.symm)) (.inl hne.symm)
  · exact cell_off (cell_off (World.cell?_setCell_same _ _ _ (cell_off h3.c1 (.inr (by decide)))) (.inl hne.symm)) (.inl hne.symm)
  · exact cell_off (World.cell?_setCell_same _ _ _ (cell_off (cell_off h4.c0 (.inl hne)) (.inl hne))) (.inr (by decide))
  · exact World.cell?_setCell_same _ _ _ (cell_off (cell_off (cell_off h4.c1 (.inl hne)) (.inl hne)) (.inr (by decide)))
  · exact (((o1.store h3.kd 0 _).store (h3.kd.store _ _ _) 1 _).store ((h4.kd.store _ _ _).store _ _ _) 0 _).store (((h4.kd.store _ _ _).store _ _ _).store _ _ _) 1 _
  · exact (((o2.store h3.kd 0 _).store (h3.kd.store _ _ _) 1 _).store ((h4.kd.store _ _ _).store _ _ _) 0 _).store (((h4.kd.store _ _ _).store _ _ _).store _ _ _) 1 _
theorem Dr.mix (W : World) {x : Nat} (hx : Zd W x) (o1 : OwnD B W (.slice a1 its.length c1) its) (o2 : OwnD B W (.slice a2 l'.length c2) l') :
    Dr B its l' (((W.alloc (.cells #[.bool true, .slice a1 its.length c1] 190)).setCell ⟨x, 0, none⟩ (.bool true)).setCell ⟨x, 1, none⟩ (.slice a2 l'.length c2)) W.heap.size x a1 c1 a2 c2 := by
  have hn := heap_alloc_new W (.cells #[.bool true, .slice a1 its.length c1] 190)
  have hb := below_alloc W (.cells #[.bool true, .slice a1 its.length c1] 190)
  have hx' := hx.grow hb
  have hne := hx.ne
  refine ⟨?_, ?_, ?_, ?_, ?_, ?_⟩
  · exact cell_off (cell_off ((blk_facts hn).1 0 _ rfl) (.inl hne)) (.inl hne)
  · exact cell_off (cell_off ((blk_facts hn).1 1 _ rfl) (.inl hne)) (.inl hne)
  · exact cell_off (World.cell?_setCell_same _ _ _ hx'.c0) (.inr (by decide))
  · exact World.cell?_setCell_same _ _ _ (cell_off hx'.c1 (.inr (by decide)))
  · exact ((o1.grow hb).store hx'.kd 0 _).store (hx'.kd.store _ _ _) 1 _
  · exact ((o2.grow hb).store hx'.kd 0 _).store (hx'.kd.store _ _ _) 1 _

theorem OwnD.some {W : World} {a : Option Addr} {n cap : Nat} {l : List L6.It} (h : OwnD B W (.slice a n cap) l) (hne : l ≠ []) : ∃ b, a = some ⟨b, 0, none⟩ ∧ B ≤ b ∧ b < W.heap.size := by
  rcases h.2 with ⟨_, hn⟩ | ⟨g, cap', cur, e, hB, hg, _⟩
  · exact absurd (List.length_eq_zero_iff.1 hn) hne
  · injection e with e1 e2 e3
    exact ⟨g, e1, hB, (Array.getElem?_eq_some_iff.1 hg).1⟩
theorem RowD.same {W W' : World} {b off : Nat} {l : List L6.It} (h : RowD W (some ⟨b, off, none⟩) l) (e : W'.heap[b]? = W.heap[b]?) : RowD W' (some ⟨b, off, none⟩) l := by
  rcases h with h | ⟨b', off', q, h⟩
  · exact .inl h
  · injection q with q
    injection q with q1 q2
    subst q1 q2
    have g : ∀ i, W'.cell? ⟨b, i, none⟩ = W.cell? ⟨b, i, none⟩ := fun i => World.cell?_of_block e
    refine .inr ⟨b, off, rfl, fun k y hy => ?_⟩
    obtain ⟨q0, q1, q2, q3, q4, q5⟩ := h k y hy
    exact ⟨(g _).trans q0, (g _).trans q1, (g _).trans q2, (g _).trans q3, (g _).trans q4, (g _).trans q5⟩
theorem below_putObj {n : Nat} {W W' : World} {D : Nat} (h : Below n W W') (hD : n ≤ D) (o : Obj) : Below n W (W'.putObj D o) :=
  ⟨h.os, h.tape, h.output, by have := h.size; simpa [World.putObj] using this, fun k hk => (World.putObj_heap_other (by omega)).trans (h.block k hk)⟩

set_option maxHeartbeats 1000000 in
theorem backward_any (w : World) : Calls Tryz.prog 189 #[.slice none 0 0] w fun e w' => e = .returned (.func (.func 213) #[] #[.pointer (some ⟨w.heap.size, 0, none⟩)]) ∧ w'.cell? ⟨w.heap.size, 0, none⟩ = some (.slice none 0 0) ∧ Below w.heap.size w w' := by
  have hmf : ∀ (fn : Fn) (first cap : Array Value) (w : World), (Instr.makeFunc fn first cap).run Tryz.prog w = .ok (.func fn first cap) w := fun _ _ _ _ => rfl
  go_enter Tryz.func189, Tryz.ntmps189
  go_wp2
  go_ret
  exact ⟨rfl, cell_at _ _ _, below_alloc _ _⟩
set_option maxHeartbeats 1000000 in
theorem back1_any (f : Value) (B : Nat) (w : World) (hb : w.cell? ⟨B, 0, none⟩ = some (.slice none 0 0)) : Calls Tryz.prog 213 #[f, .pointer (some ⟨B, 0, none⟩)] w fun e w' => e = .returned (.tuple #[]) ∧ w' = w := by
  go_enter Tryz.func213, Tryz.ntmps213
  go_wp2
  refine wp_loop_rounds 1 ?_
  rw [rounds_succ]
  go_wp2
  go_end0
  exact ⟨rfl, rfl⟩
theorem back1_in (n L B : Nat) (W : World) (hb : W.cell? ⟨B, 0, none⟩ = some (.slice none 0 0)) : CallsIn Fence.wide n Tryz.prog 213 (#[.func (.yield L) #[] #[]] ++ #[.pointer (some ⟨B, 0, none⟩)]) W fun e W' => (∃ v, e = .returned v) ∧ W' = W := by
  show CallsIn Fence.wide n Tryz.prog 213 #[.func (.yield L) #[] #[], .pointer (some ⟨B, 0, none⟩)] W _
  exact (callsIn_wide.2 (back1_any _ B W hb)).mono (fun e W' h => ⟨⟨_, h.1⟩, h.2⟩)

set_option maxHeartbeats 40000000 in
set_option maxRecDepth 20000 in
theorem usual_any (M B kc vc : Nat) (its l' : List L6.It) (ai ak : Option Addr) (ci ck : Nat) (w : World) (h5 : w.cell? ⟨M, 5, none⟩ = some (.slice none 0 0)) (h6 : w.cell? ⟨M, 6, none⟩ = some (.bool true)) (h7 : w.cell? ⟨M, 7, none⟩ = some (.slice ai its.length ci)) (h8 : w.cell? ⟨M, 8, none⟩ = some (.slice ak 0 ck))
    (h9 : w.cell? ⟨M, 9, none⟩ = some (.func (.func 46) #[] #[.pointer (some ⟨kc, 0, none⟩), .pointer (some ⟨vc, 0, none⟩)])) (hr : L6.Row itV w ai its) (hl : its.length ≤ 1100) (ht : Tame l') (hs : lsz l' ≤ 1007) (hne : l' ≠ []) (hB : B ≤ w.heap.size)
    (hE : ∀ W, Below w.heap.size w W → Calls Tryz.prog 46 #[.slice ai its.length ci, .pointer (some ⟨kc, 0, none⟩), .pointer (some ⟨vc, 0, none⟩)] W fun e W' => ∃ v, e = .returned v ∧ OwnI W.heap.size W' v l' ∧ Below W.heap.size W W') :
    Calls Tryz.prog 149 #[.pointer (some ⟨M, 0, none⟩)] w fun e w' => PlanSaid w (Kp l' B) e w' := by
  have b1 := below_then (below_alloc w (.cells #[.pointer (some ⟨M, 0, none⟩)] 178)) (below_alloc (w.alloc (.cells #[.pointer (some ⟨M, 0, none⟩)] 178)) (.cells #[.slice none 0 0, .int .i64 0, .int .i64 0] 187))
  have q : ∀ {i : Nat} {v : Value}, w.cell? ⟨M, i, none⟩ = some v → ((w.alloc (.cells #[.pointer (some ⟨M, 0, none⟩)] 178)).alloc (.cells #[.slice none 0 0, .int .i64 0, .int .i64 0] 187)).cell? ⟨M, i, none⟩ = some v := fun h => (b1.cell (World.block_lt_of_cell? w _ h)).trans h
  have hb0 : ((w.alloc (.cells #[.pointer (some ⟨M, 0, none⟩)] 178)).alloc (.cells #[.slice none 0 0, .int .i64 0, .int .i64 0] 187)).cell? ⟨w.heap.size, 0, none⟩ = some (.pointer (some ⟨M, 0, none⟩)) := by
    have h := (below_alloc (w.alloc (.cells #[.pointer (some ⟨M, 0, none⟩)] 178)) (.cells #[.slice none 0 0, .int .i64 0, .int .i64 0] 187)).cell (p := ⟨w.heap.size, 0, none⟩) (by simp)
    rw [h]
    simp
  have g5 := q h5
  have g6 := q h6
  have g7 := q h7
  have g8 := q h8
  have g9 := q h9
  have HN : Hid (((w.alloc (.cells #[.pointer (some ⟨M, 0, none⟩)] 178)).alloc (.cells #[.slice none 0 0, .int .i64 0, .int .i64 0] 187)).heap[w.heap.size + 1]? = some (.cells #[.slice none 0 0, .int .i64 0, .int .i64 0] 187 (0, 0))) := by
    have h := heap_alloc_new (w.alloc (.cells #[.pointer (some ⟨M, 0, none⟩)] 178)) (.cells #[.slice none 0 0, .int .i64 0, .int .i64 0] 187)
    rw [World.size_alloc] at h
    exact h
  have HZ : Hid (((w.alloc (.cells #[.pointer (some ⟨M, 0, none⟩)] 178)).alloc (.cells #[.slice none 0 0, .int .i64 0, .int .i64 0] 187)).heap.size = w.heap.size + 2) := by show _ = _; rw [World.size_alloc, World.size_alloc]
  have HB := hide b1
  have HR := hide hr
  have HE := hide hE
  have HL := hide (And.intro hl ht.1)
  have HT := hide (And.intro ht (And.intro hs (And.intro hne hB)))
  have H5 := hide g5
  have HM : Hid (M < w.heap.size) := World.block_lt_of_cell? w _ h6
  have HBX := hide hb0
  clear q h5 h6 h7 h8 h9 hr hE hl ht hs hne hB b1 g5
  refine (callsIn_wide (n := 9)).1 ?_
  refine callsIn_of_wp_marks Tryz.func149 rfl trivial ?_ rfl
  simp only [Tryz.ntmps149, List.size_toArray, List.length_cons, List.length_nil, Nat.reduceAdd, Nat.reduceSub, Array.replicate_succ, Array.replicate_zero, List.push_toArray, List.append_toArray, List.nil_append, List.cons_append]
  refine wpIn_wide.2 ?_
  go_wp2_with fail
  generalize ((w.alloc (.cells #[.pointer (some ⟨M, 0, none⟩)] 178)).alloc (.cells #[.slice none 0 0, .int .i64 0, .int .i64 0] 187)) = w1 at *
  have KP : Hid (∀ wa wb, (fun w' => Below w1.heap.size w1 w' ∧ w'.cell? ⟨w.heap.size, 0, none⟩ = some (.pointer (some ⟨M, 0, none⟩)) ∧ w'.cell? ⟨M, 6, none⟩ = some (.bool true) ∧ w'.cell? ⟨M, 7, none⟩ = some (.slice ai its.length ci) ∧ w'.cell? ⟨M, 8, none⟩ = some (.slice ak 0 ck) ∧ w'.cell? ⟨M, 9, none⟩ = some (.func (.func 46) #[] #[.pointer (some ⟨kc, 0, none⟩), .pointer (some ⟨vc, 0, none⟩)])) wa → Below wa.heap.size wa wb → (fun w' => Below w1.heap.size w1 w' ∧ w'.cell? ⟨w.heap.size, 0, none⟩ = some (.pointer (some ⟨M, 0, none⟩)) ∧ w'.cell? ⟨M, 6, none⟩ = some (.bool true) ∧ w'.cell? ⟨M, 7, none⟩ = some (.slice ai its.length ci) ∧ w'.cell? ⟨M, 8, none⟩ = some (.slice ak 0 ck) ∧ w'.cell? ⟨M, 9, none⟩ = some (.func (.func 46) #[] #[.pointer (some ⟨kc, 0, none⟩), .pointer (some ⟨vc, 0, none⟩)])) wb) := fun wa wb h hb =>
    ⟨below_then h.1 hb, (hb.cell (World.block_lt_of_cell? wa _ h.2.1)).trans h.2.1, (hb.cell (World.block_lt_of_cell? wa _ h.2.2.1)).trans h.2.2.1, (hb.cell (World.block_lt_of_cell? wa _ h.2.2.2.1)).trans h.2.2.2.1, (hb.cell (World.block_lt_of_cell? wa _ h.2.2.2.2.1)).trans h.2.2.2.2.1, (hb.cell (World.block_lt_of_cell? wa _ h.2.2.2.2.2)).trans h.2.2.2.2.2⟩
  have H0 : Hid ((fun w' => Below w1.heap.size w1 w' ∧ w'.cell? ⟨w.heap.size, 0, none⟩ = some (.pointer (some ⟨M, 0, none⟩)) ∧ w'.cell? ⟨M, 6, none⟩ = some (.bool true) ∧ w'.cell? ⟨M, 7, none⟩ = some (.slice ai its.length ci) ∧ w'.cell? ⟨M, 8, none⟩ = some (.slice ak 0 ck) ∧ w'.cell? ⟨M, 9, none⟩ = some (.func (.func 46) #[] #[.pointer (some ⟨kc, 0, none⟩), .pointer (some ⟨vc, 0, none⟩)])) w1.drew) := ⟨(Below.refl _ _).drew, hb0, g6, g7, g8, g9⟩
  have K1 : Hid (∀ wa o, (fun w' => Below w1.heap.size w1 w' ∧ w'.cell? ⟨w.heap.size, 0, none⟩ = some (.pointer (some ⟨M, 0, none⟩)) ∧ w'.cell? ⟨M, 6, none⟩ = some (.bool true) ∧ w'.cell? ⟨M, 7, none⟩ = some (.slice ai its.length ci) ∧ w'.cell? ⟨M, 8, none⟩ = some (.slice ak 0 ck) ∧ w'.cell? ⟨M, 9, none⟩ = some (.func (.func 46) #[] #[.pointer (some ⟨kc, 0, none⟩), .pointer (some ⟨vc, 0, none⟩)])) wa → (fun w' => Below w1.heap.size w1 w' ∧ w'.cell? ⟨w.heap.size, 0, none⟩ = some (.pointer (some ⟨M, 0, none⟩)) ∧ w'.cell? ⟨M, 6, none⟩ = some (.bool true) ∧ w'.cell? ⟨M, 7, none⟩ = some (.slice ai its.length ci) ∧ w'.cell? ⟨M, 8, none⟩ = some (.slice ak 0 ck) ∧ w'.cell? ⟨M, 9, none⟩ = some (.func (.func 46) #[] #[.pointer (some ⟨kc, 0, none⟩), .pointer (some ⟨vc, 0, none⟩)])) (wa.alloc o)) := fun wa o h => unhide KP _ _ h (below_alloc wa o)
  have HA1 : Hid ((fun w' => Below w1.heap.size w1 w' ∧ w'.cell? ⟨w.heap.size, 0, none⟩ = some (.pointer (some ⟨M, 0, none⟩)) ∧ w'.cell? ⟨M, 6, none⟩ = some (.bool true) ∧ w'.cell? ⟨M, 7, none⟩ = some (.slice ai its.length ci) ∧ w'.cell? ⟨M, 8, none⟩ = some (.slice ak 0 ck) ∧ w'.cell? ⟨M, 9, none⟩ = some (.func (.func 46) #[] #[.pointer (some ⟨kc, 0, none⟩), .pointer (some ⟨vc, 0, none⟩)])) ((w1.alloc (.cells #[.bool false, .slice none 0 0] 190)).drew)) := unhide K1 w1.drew (.cells #[.bool false, .slice none 0 0] 190) (unhide H0)
  have HA2 : Hid ((fun w' => Below w1.heap.size w1 w' ∧ w'.cell? ⟨w.heap.size, 0, none⟩ = some (.pointer (some ⟨M, 0, none⟩)) ∧ w'.cell? ⟨M, 6, none⟩ = some (.bool true) ∧ w'.cell? ⟨M, 7, none⟩ = some (.slice ai its.length ci) ∧ w'.cell? ⟨M, 8, none⟩ = some (.slice ak 0 ck) ∧ w'.cell? ⟨M, 9, none⟩ = some (.func (.func 46) #[] #[.pointer (some ⟨kc, 0, none⟩), .pointer (some ⟨vc, 0, none⟩)])) (((w1.alloc (.cells #[.bool false, .slice none 0 0] 190)).alloc (.cells #[.bool false, .slice none 0 0] 190)).drew)) := unhide K1 (w1.alloc (.cells #[.bool false, .slice none 0 0] 190)).drew (.cells #[.bool false, .slice none 0 0] 190) (unhide HA1)
  have KS : Hid (∀ wa b i v, (fun w' => Below w1.heap.size w1 w' ∧ w'.cell? ⟨w.heap.size, 0, none⟩ = some (.pointer (some ⟨M, 0, none⟩)) ∧ w'.cell? ⟨M, 6, none⟩ = some (.bool true) ∧ w'.cell? ⟨M, 7, none⟩ = some (.slice ai its.length ci) ∧ w'.cell? ⟨M, 8, none⟩ = some (.slice ak 0 ck) ∧ w'.cell? ⟨M, 9, none⟩ = some (.func (.func 46) #[] #[.pointer (some ⟨kc, 0, none⟩), .pointer (some ⟨vc, 0, none⟩)])) wa → w1.heap.size ≤ b → (fun w' => Below w1.heap.size w1 w' ∧ w'.cell? ⟨w.heap.size, 0, none⟩ = some (.pointer (some ⟨M, 0, none⟩)) ∧ w'.cell? ⟨M, 6, none⟩ = some (.bool true) ∧ w'.cell? ⟨M, 7, none⟩ = some (.slice ai its.length ci) ∧ w'.cell? ⟨M, 8, none⟩ = some (.slice ak 0 ck) ∧ w'.cell? ⟨M, 9, none⟩ = some (.func (.func 46) #[] #[.pointer (some ⟨kc, 0, none⟩), .pointer (some ⟨vc, 0, none⟩)])) (wa.setCell ⟨b, i, none⟩ v)) := fun wa b i v h hb => by
    have hM := unhide HM
    have hz := unhide HZ
    refine ⟨L6.below_store h.1 b i v hb, ?_, ?_, ?_, ?_, ?_⟩
    · exact (World.cell?_setCell_other _ _ _ _ (by first | (simp; done) | (simp; omega))).trans h.2.1
    · exact (World.cell?_setCell_other _ _ _ _ (by first | (simp; done) | (simp; omega))).trans h.2.2.1
    · exact (World.cell?_setCell_other _ _ _ _ (by first | (simp; done) | (simp; omega))).trans h.2.2.2.1
    · exact (World.cell?_setCell_other _ _ _ _ (by first | (simp; done) | (simp; omega))).trans h.2.2.2.2.1
    · exact (World.cell?_setCell_other _ _ _ _ (by first | (simp; done) | (simp; omega))).trans h.2.2.2.2.2
  have KD : Hid (∀ wa, (fun w' => Below w1.heap.size w1 w' ∧ w'.cell? ⟨w.heap.size, 0, none⟩ = some (.pointer (some ⟨M, 0, none⟩)) ∧ w'.cell? ⟨M, 6, none⟩ = some (.bool true) ∧ w'.cell? ⟨M, 7, none⟩ = some (.slice ai its.length ci) ∧ w'.cell? ⟨M, 8, none⟩ = some (.slice ak 0 ck) ∧ w'.cell? ⟨M, 9, none⟩ = some (.func (.func 46) #[] #[.pointer (some ⟨kc, 0, none⟩), .pointer (some ⟨vc, 0, none⟩)])) wa → Calls Tryz.prog 152 #[.agg #[.bool true, .slice ai its.length ci, .slice ak 0 ck]] wa fun e w' => ∃ v, e = .returned (.agg #[.bool true, v]) ∧ OwnD w1.heap.size w' v its ∧ Below wa.heap.size wa w') := fun wa h => (draftOf_leaf true its ai ci ak ck wa ((unhide HR).grow (below_then (unhide HB) h.1)) (unhide HL).1).mono (fun e w' hh => by
    obtain ⟨v, he, ho, hb⟩ := hh
    exact ⟨v, he, ho.base h.1.size, hb⟩)
  have KE : Hid (∀ wa, (fun w' => Below w1.heap.size w1 w' ∧ w'.cell? ⟨w.heap.size, 0, none⟩ = some (.pointer (some ⟨M, 0, none⟩)) ∧ w'.cell? ⟨M, 6, none⟩ = some (.bool true) ∧ w'.cell? ⟨M, 7, none⟩ = some (.slice ai its.length ci) ∧ w'.cell? ⟨M, 8, none⟩ = some (.slice ak 0 ck) ∧ w'.cell? ⟨M, 9, none⟩ = some (.func (.func 46) #[] #[.pointer (some ⟨kc, 0, none⟩), .pointer (some ⟨vc, 0, none⟩)])) wa → Calls Tryz.prog 46 #[.slice ai its.length ci, .pointer (some ⟨kc, 0, none⟩), .pointer (some ⟨vc, 0, none⟩)] wa fun e W' => ∃ v, e = .returned v ∧ OwnI wa.heap.size W' v l' ∧ Below wa.heap.size wa W') := fun wa h => unhide HE wa (below_then (unhide HB) h.1)
  have KF : Hid (∀ (wa : World) (a : Option Addr) (c : Nat), (fun w' => Below w1.heap.size w1 w' ∧ w'.cell? ⟨w.heap.size, 0, none⟩ = some (.pointer (some ⟨M, 0, none⟩)) ∧ w'.cell? ⟨M, 6, none⟩ = some (.bool true) ∧ w'.cell? ⟨M, 7, none⟩ = some (.slice ai its.length ci) ∧ w'.cell? ⟨M, 8, none⟩ = some (.slice ak 0 ck) ∧ w'.cell? ⟨M, 9, none⟩ = some (.func (.func 46) #[] #[.pointer (some ⟨kc, 0, none⟩), .pointer (some ⟨vc, 0, none⟩)])) wa → L6.Row itV wa a l' → Calls Tryz.prog 187 #[.slice a l'.length c] wa fun e w' => ∃ v, e = .returned (.agg #[.bool true, v]) ∧ OwnD w1.heap.size w' v l' ∧ Below wa.heap.size wa w') := fun wa a c h hr => (leafOf_any l' a c wa hr (unhide HL).2).mono (fun e w' hh => by
    obtain ⟨v, he, ho, hb⟩ := hh
    exact ⟨v, he, ho.base h.1.size, hb⟩)
  clear hb0 g6 g7 g8 g9 HE HR
  go_cut [3, 4] from 3 to 24 (fun s3 s4 wc => ∃ b3 b4 a1 c1 a2 c2, s3 = .pointer (some ⟨b3, 0, none⟩) ∧ s4 = .pointer (some ⟨b4, 0, none⟩) ∧ Dr w1.heap.size its l' wc b3 b4 a1 c1 a2 c2 ∧ Below w1.heap.size w1 wc)
  case first =>
    go_region_held3 (fun w' => Below w1.heap.size w1 w' ∧ w'.cell? ⟨w.heap.size, 0, none⟩ = some (.pointer (some ⟨M, 0, none⟩)) ∧ w'.cell? ⟨M, 6, none⟩ = some (.bool true) ∧ w'.cell? ⟨M, 7, none⟩ = some (.slice ai its.length ci) ∧ w'.cell? ⟨M, 8, none⟩ = some (.slice ak 0 ck) ∧ w'.cell? ⟨M, 9, none⟩ = some (.func (.func 46) #[] #[.pointer (some ⟨kc, 0, none⟩), .pointer (some ⟨vc, 0, none⟩)]))
      (with_reducible first | assumption | exact unhide H0 | exact unhide HA1 | exact unhide HA2 | exact unhide K1 _ _ (by assumption) | exact unhide K1 _ _ (unhide H0) | exact unhide K1 _ _ (unhide K1 _ _ (by assumption)) | exact unhide K1 _ _ (unhide K1 _ _ (unhide H0)) | exact (unhide KS _ _ _ _ (by (with_reducible first | assumption | exact unhide H0 | exact unhide HA1 | exact unhide HA2 | exact unhide K1 _ _ (by assumption) | exact unhide K1 _ _ (unhide H0) | exact unhide K1 _ _ (unhide K1 _ _ (by assumption)) | exact unhide K1 _ _ (unhide K1 _ _ (unhide H0)))) (by (first | exact Nat.le_refl _ | exact Nat.le_succ _ | (have q := H4.1.size; (try simp only [World.size_alloc]); omega) | (have q := H3.1.size; (try simp only [World.size_alloc]); omega) | (have q := H2.1.size; (try simp only [World.size_alloc]); omega)))) | exact (unhide KS _ _ _ _ (unhide KS _ _ _ _ (by (with_reducible first | assumption | exact unhide H0 | exact unhide HA1 | exact unhide HA2 | exact unhide K1 _ _ (by assumption) | exact unhide K1 _ _ (unhide H0) | exact unhide K1 _ _ (unhide K1 _ _ (by assumption)) | exact unhide K1 _ _ (unhide K1 _ _ (unhide H0)))) (by (first | exact Nat.le_refl _ | exact Nat.le_succ _ | (have q := H4.1.size; (try simp only [World.size_alloc]); omega) | (have q := H3.1.size; (try simp only [World.size_alloc]); omega) | (have q := H2.1.size; (try simp only [World.size_alloc]); omega)))) (by (first | exact Nat.le_refl _ | exact Nat.le_succ _ | (have q := H4.1.size; (try simp only [World.size_alloc]); omega) | (have q := H3.1.size; (try simp only [World.size_alloc]); omega) | (have q := H2.1.size; (try simp only [World.size_alloc]); omega)))) | exact (unhide KS _ _ _ _ (unhide KS _ _ _ _ (unhide KS _ _ _ _ (by (with_reducible first | assumption | exact unhide H0 | exact unhide HA1 | exact unhide HA2 | exact unhide K1 _ _ (by assumption) | exact unhide K1 _ _ (unhide H0) | exact unhide K1 _ _ (unhide K1 _ _ (by assumption)) | exact unhide K1 _ _ (unhide K1 _ _ (unhide H0)))) (by (first | exact Nat.le_refl _ | exact Nat.le_succ _ | (have q := H4.1.size; (try simp only [World.size_alloc]); omega) | (have q := H3.1.size; (try simp only [World.size_alloc]); omega) | (have q := H2.1.size; (try simp only [World.size_alloc]); omega)))) (by (first | exact Nat.le_refl _ | exact Nat.le_succ _ | (have q := H4.1.size; (try simp only [World.size_alloc]); omega) | (have q := H3.1.size; (try simp only [World.size_alloc]); omega) | (have q := H2.1.size; (try simp only [World.size_alloc]); omega)))) (by (first | exact Nat.le_refl _ | exact Nat.le_succ _ | (have q := H4.1.size; (try simp only [World.size_alloc]); omega) | (have q := H3.1.size; (try simp only [World.size_alloc]); omega) | (have q := H2.1.size; (try simp only [World.size_alloc]); omega)))) | exact (unhide KS _ _ _ _ (unhide KS _ _ _ _ (unhide KS _ _ _ _ (unhide KS _ _ _ _ (by (with_reducible first | assumption | exact unhide H0 | exact unhide HA1 | exact unhide HA2 | exact unhide K1 _ _ (by assumption) | exact unhide K1 _ _ (unhide H0) | exact unhide K1 _ _ (unhide K1 _ _ (by assumption)) | exact unhide K1 _ _ (unhide K1 _ _ (unhide H0)))) (by (first | exact Nat.le_refl _ | exact Nat.le_succ _ | (have q := H4.1.size; (try simp only [World.size_alloc]); omega) | (have q := H3.1.size; (try simp only [World.size_alloc]); omega) | (have q := H2.1.size; (try simp only [World.size_alloc]); omega)))) (by (first | exact Nat.le_refl _ | exact Nat.le_succ _ | (have q := H4.1.size; (try simp only [World.size_alloc]); omega) | (have q := H3.1.size; (try simp only [World.size_alloc]); omega) | (have q := H2.1.size; (try simp only [World.size_alloc]); omega)))) (by (first | exact Nat.le_refl _ | exact Nat.le_succ _ | (have q := H4.1.size; (try simp only [World.size_alloc]); omega) | (have q := H3.1.size; (try simp only [World.size_alloc]); omega) | (have q := H2.1.size; (try simp only [World.size_alloc]); omega)))) (by (first | exact Nat.le_refl _ | exact Nat.le_succ _ | (have q := H4.1.size; (try simp only [World.size_alloc]); omega) | (have q := H3.1.size; (try simp only [World.size_alloc]); omega) | (have q := H2.1.size; (try simp only [World.size_alloc]); omega)))))
      (first
        | (go_at_call 152; refine (unhide KD _ (by (with_reducible first | assumption | exact unhide H0 | exact unhide HA1 | exact unhide HA2 | exact unhide K1 _ _ (by assumption) | exact unhide K1 _ _ (unhide H0) | exact unhide K1 _ _ (unhide K1 _ _ (by assumption)) | exact unhide K1 _ _ (unhide K1 _ _ (unhide H0))))).mono ?_; rintro e w2 ⟨v1, rfl, ho1, hb1⟩; obtain ⟨a1, c1, rfl⟩ := L6.ownsRow_form ho1; have H2 := unhide KP _ _ (by (with_reducible first | assumption | exact unhide H0 | exact unhide HA1 | exact unhide HA2 | exact unhide K1 _ _ (by assumption) | exact unhide K1 _ _ (unhide H0) | exact unhide K1 _ _ (unhide K1 _ _ (by assumption)) | exact unhide K1 _ _ (unhide K1 _ _ (unhide H0)))) hb1; (try first | (with_reducible have zs' := Zd.grow zs hb1; with_reducible have zp' := Zd.grow zp hb1; have zs := zs'; have zp := zp') | (have hps := Zd.ne zp; with_reducible have zs := Zd.grow (Zd.new _) hb1; with_reducible have zp' := Zd.grow (Zd.alloc zp _) hb1; have zp := zp') | (with_reducible have zp' := Zd.grow zp hb1; have zp := zp') | (with_reducible have zs := Zd.grow (Zd.new1 _ _) hb1; have hps := ne_succ_of zs; with_reducible have zp := Zd.grow (Zd.alloc (Zd.new _) _) hb1) | (have zs := Zd.grow (Zd.newd1 w1 (.cells #[.bool false, .slice none 0 0] 190)) hb1; have hps := ne_succ_of zs; have zp := Zd.grow (Zd.drew (Zd.alloc (Zd.new w1) _)) hb1) | (with_reducible have zp := Zd.grow (Zd.new _) hb1) | (have zp := Zd.grow (Zd.newd w1) hb1)))
        | (go_at_call 46; refine (unhide KE _ (by (with_reducible first | assumption | exact unhide H0 | exact unhide HA1 | exact unhide HA2 | exact unhide K1 _ _ (by assumption) | exact unhide K1 _ _ (unhide H0) | exact unhide K1 _ _ (unhide K1 _ _ (by assumption)) | exact unhide K1 _ _ (unhide K1 _ _ (unhide H0))))).mono ?_; rintro e w3 ⟨v2, rfl, ho2, hb2⟩; obtain ⟨a2, c2, rfl⟩ := L6.ownsRow_form ho2; have H3 := unhide KP _ _ (by (with_reducible first | assumption | exact unhide H0 | exact unhide HA1 | exact unhide HA2 | exact unhide K1 _ _ (by assumption) | exact unhide K1 _ _ (unhide H0) | exact unhide K1 _ _ (unhide K1 _ _ (by assumption)) | exact unhide K1 _ _ (unhide K1 _ _ (unhide H0)))) hb2; (try first | (with_reducible have zs' := Zd.grow zs hb2; with_reducible have zp' := Zd.grow zp hb2; have zs := zs'; have zp := zp') | (have hps := Zd.ne zp; with_reducible have zs := Zd.grow (Zd.new _) hb2; with_reducible have zp' := Zd.grow (Zd.alloc zp _) hb2; have zp := zp') | (with_reducible have zp' := Zd.grow zp hb2; have zp := zp') | (with_reducible have zs := Zd.grow (Zd.new1 _ _) hb2; have hps := ne_succ_of zs; with_reducible have zp := Zd.grow (Zd.alloc (Zd.new _) _) hb2) | (have zs := Zd.grow (Zd.newd1 w1 (.cells #[.bool false, .slice none 0 0] 190)) hb2; have hps := ne_succ_of zs; have zp := Zd.grow (Zd.drew (Zd.alloc (Zd.new w1) _)) hb2) | (with_reducible have zp := Zd.grow (Zd.new _) hb2) | (have zp := Zd.grow (Zd.newd w1) hb2)))
        | (go_at_call 187; refine (unhide KF _ _ _ (by (with_reducible first | assumption | exact unhide H0 | exact unhide HA1 | exact unhide HA2 | exact unhide K1 _ _ (by assumption) | exact unhide K1 _ _ (unhide H0) | exact unhide K1 _ _ (unhide K1 _ _ (by assumption)) | exact unhide K1 _ _ (unhide K1 _ _ (unhide H0)))) (by with_reducible first | exact ho2.row | exact (ho2.below (below_alloc _ _)).row | exact ((ho2.below (below_alloc _ _)).below (below_alloc _ _)).row)).mono ?_; rintro e w4 ⟨v3, rfl, ho3, hb3⟩; obtain ⟨a3, c3, rfl⟩ := L6.ownsRow_form ho3; have H4 := unhide KP _ _ (by (with_reducible first | assumption | exact unhide H0 | exact unhide HA1 | exact unhide HA2 | exact unhide K1 _ _ (by assumption) | exact unhide K1 _ _ (unhide H0) | exact unhide K1 _ _ (unhide K1 _ _ (by assumption)) | exact unhide K1 _ _ (unhide K1 _ _ (unhide H0)))) hb3; (try first | (with_reducible have zs' := Zd.grow zs hb3; with_reducible have zp' := Zd.grow zp hb3; have zs := zs'; have zp := zp') | (have hps := Zd.ne zp; with_reducible have zs := Zd.grow (Zd.new _) hb3; with_reducible have zp' := Zd.grow (Zd.alloc zp _) hb3; have zp := zp') | (with_reducible have zp' := Zd.grow zp hb3; have zp := zp') | (with_reducible have zs := Zd.grow (Zd.new1 _ _) hb3; have hps := ne_succ_of zs; with_reducible have zp := Zd.grow (Zd.alloc (Zd.new _) _) hb3) | (have zs := Zd.grow (Zd.newd1 w1 (.cells #[.bool false, .slice none 0 0] 190)) hb3; have hps := ne_succ_of zs; have zp := Zd.grow (Zd.drew (Zd.alloc (Zd.new w1) _)) hb3) | (with_reducible have zp := Zd.grow (Zd.new _) hb3) | (have zp := Zd.grow (Zd.newd w1) hb3)); (try (have pk := 0; have p0 := zp.c0; have p1 := zp.c1; have p2 := zp.fr 0; have p3 := zp.fr 1)); (try (have zq := zp.alloc (.cells #[.bool false, .slice none 0 0] 190); have q0 := zq.c0; have q1 := zq.c1; have q2 := zq.fr 0; have q3 := zq.fr 1)); (try (have pk := 0; have s0 := zs.c0; have s1 := zs.c1; have s2 := zs.fr 0; have s3 := zs.fr 1)); (try (have y := Zd.set (Zd.set (Zd.new w4) zp.ne 0 (.bool true)) zp.ne 1 (.slice a1 its.length c1); have y0 := y.c0; have y1 := y.c1; have y2 := y.fr 0; have y3 := y.fr 1)); (try (have y := zp.alloc (.cells #[.bool true, .slice a1 its.length c1] 190); have y0 := y.c0; have y1 := y.c1; have y2 := y.fr 0; have y3 := y.fr 1)); (try (have y := Zd.set (Zd.set zs hps 0 (.bool true)) hps 1 (.slice a1 its.length c1); have y0 := y.c0; have y1 := y.c1; have y2 := y.fr 0; have y3 := y.fr 1)); (try (have y := Zd.set (Zd.set zp hps.symm 0 (.bool true)) hps.symm 1 (.slice a1 its.length c1); have y0 := y.c0; have y1 := y.c1; have y2 := y.fr 0; have y3 := y.fr 1))))
    all_goals go_wp2_with fail
    all_goals go_meet
    all_goals
      rename_i hHeld
      have hq1 : OwnD w1.heap.size w4 (.slice a1 its.length c1) its := by
        with_reducible first
          | exact (ho1.grow hb2).grow hb3
          | exact ((ho1.grow (below_alloc _ _)).grow hb2).grow hb3
          | exact ((ho1.grow hb2).grow (below_alloc _ _)).grow hb3
          | exact (((ho1.grow (below_alloc _ _)).grow (below_alloc _ _)).grow hb2).grow hb3
          | exact (((ho1.grow hb2).grow (below_alloc _ _)).grow (below_alloc _ _)).grow hb3
          | exact (((ho1.grow (below_alloc _ _)).grow hb2).grow (below_alloc _ _)).grow hb3
      with_reducible first
        | exact ⟨_, _, a1, c1, a3, c3, rfl, rfl, Dr.lit w4 hq1 ho3, hHeld.1⟩
        | exact ⟨_, _, a1, c1, a3, c3, rfl, rfl, Dr.lit2 w4 hq1 ho3, hHeld.1⟩
        | exact ⟨_, _, a1, c1, a3, c3, rfl, rfl, Dr.four w4 zp zs hps hq1 ho3, hHeld.1⟩
        | exact ⟨_, _, a1, c1, a3, c3, rfl, rfl, Dr.four w4 zs zp hps.symm hq1 ho3, hHeld.1⟩
        | exact ⟨_, _, a1, c1, a3, c3, rfl, rfl, Dr.four (w4.alloc (.cells #[.bool false, .slice none 0 0] 190)) (zp.alloc _) (Zd.new w4) zp.ne (hq1.grow (below_alloc _ _)) (ho3.grow (below_alloc _ _)), hHeld.1⟩
        | exact ⟨_, _, a1, c1, a3, c3, rfl, rfl, Dr.mix w4 zp hq1 ho3, hHeld.1⟩
  case rest =>
    obtain ⟨b3, b4, a1, c1, a2, c2, rfl, rfl, ⟨x0, x1, y0, y1, o1, o2⟩, hbel⟩ := hcut
    have hends := ends_any its l' a1 a2 c1 c2 wc o1.rowD o2.rowD (unhide HL).1 (unhide HL).2
    have HE := hide hends
    have HO := hide o2
    have hz := unhide HZ
    have hB1 := below_then (unhide HB) hbel
    have hbx : wc.cell? ⟨w.heap.size, 0, none⟩ = some (.pointer (some ⟨M, 0, none⟩)) := (hbel.cell (World.block_lt_of_cell? w1 _ (unhide HBX))).trans (unhide HBX)
    have hm5 : wc.cell? ⟨M, 5, none⟩ = some (.slice none 0 0) := (hbel.cell (World.block_lt_of_cell? w1 _ (unhide H5))).trans (unhide H5)
    have HN1 : Hid (wc.heap[w.heap.size + 1]? = some (.cells #[.slice none 0 0, .int .i64 0, .int .i64 0] 187 (0, 0))) := (hbel.block (w.heap.size + 1) (by omega)).trans (unhide HN)
    have HBC := hide hB1
    have HW1 : Hid (w1.heap.size ≤ wc.heap.size) := hbel.size
    clear hends o1 o2 hbel hB1 KP H0 K1 KS KD KE KF hz
    go_wp2_with fail
    refine (unhide HE).mono ?_
    rintro e w5 ⟨f, rfl, hb⟩
    have hb2 := below_alloc w5 (.cells #[.bool f] 4)
    have hb3 := below_then hb hb2
    have z1 := (hb3.cell (World.block_lt_of_cell? _ _ hbx)).trans hbx
    have z5 := (hb3.cell (World.block_lt_of_cell? _ _ hm5)).trans hm5
    have z40 := (hb3.cell (World.block_lt_of_cell? _ _ y0)).trans y0
    have z41 := (hb3.cell (World.block_lt_of_cell? _ _ y1)).trans y1
    have zf : (w5.alloc (.cells #[.bool f] 4)).cell? ⟨w5.heap.size, 0, none⟩ = some (.bool f) := cell_at _ _ _
    have HBC2 := hide (below_then (unhide HBC) hb3)
    have HO2 := hide ((unhide HO).grow hb3)
    have HN2 : Hid ((w5.alloc (.cells #[.bool f] 4)).heap[w.heap.size + 1]? = some (.cells #[.slice none 0 0, .int .i64 0, .int .i64 0] 187 (0, 0))) := (hb3.block _ (Array.getElem?_eq_some_iff.1 (unhide HN1)).1).trans (unhide HN1)
    clear hb hb2 hb3 x0 x1 y0 y1 hbx hm5 HE HO HN1 HBC
    go_wp2_with fail
    refine (backward_any _).mono ?_
    rintro e w6 ⟨rfl, q0, hb⟩
    rw [World.size_alloc] at q0
    have t1 := (hb.cell (World.block_lt_of_cell? _ _ z1)).trans z1
    have t5 := (hb.cell (World.block_lt_of_cell? _ _ z5)).trans z5
    have t40 := (hb.cell (World.block_lt_of_cell? _ _ z40)).trans z40
    have t41 := (hb.cell (World.block_lt_of_cell? _ _ z41)).trans z41
    have tf := (hb.cell (World.block_lt_of_cell? _ _ zf)).trans zf
    have HBC3 := hide (below_then (unhide HBC2) hb)
    have HO3 := hide ((unhide HO2).grow hb)
    have HN3 : Hid (w6.heap[w.heap.size + 1]? = some (.cells #[.slice none 0 0, .int .i64 0, .int .i64 0] 187 (0, 0))) := (hb.block _ (Array.getElem?_eq_some_iff.1 (unhide HN2)).1).trans (unhide HN2)
    clear hb z1 z5 z40 z41 zf HBC2 HO2 HN2
    go_wp2_with fail
    have HEN := hide (enters_of Tryz.func213 (by kernel_rfl) rfl)
    refine wpIn_wide (n := 9) |>.1 ?_
    refine Rf.law (α := Empty) rfl (unhide HEN) (fun x => nomatch x) (fun x => nomatch x) (fun _ W => Below w6.heap.size w6 W) (fun _ _ _ => False) (fun _ _ => True) (fun _ _ => trivial) (fun _ _ _ _ => trivial) (fun pre W r o _ h => below_putObj h (by omega) _) (fun _ _ _ _ _ _ h => h) (fun _ _ _ _ => True) (fun _ _ _ _ _ _ _ h => h) (fun _ x => nomatch x) (fun _ x => nomatch x) (fun _ => True) (fun _ => False) ?iter ?done ?stop
    case iter =>
      intro r0 rx hR hY
      have hq : ((w6.alloc (.deferred (some []))).alloc (.loop r0)).cell? ⟨w5.heap.size + 1, 0, none⟩ = some (.slice none 0 0) := cell_later _ (cell_later _ q0)
      refine (back1_in _ _ _ _ hq).mono ?_
      rintro e W' ⟨hv, rfl⟩
      exact ⟨hv, .inl ⟨[], trivial, below_then (below_alloc _ _) (below_alloc _ _), hR⟩⟩
    case stop => exact fun _ _ _ h => h.elim
    case done =>
      intro xs W _ hJ hD
      have s1 := (hJ.cell (World.block_lt_of_cell? _ _ t1)).trans t1
      have s5 := (hJ.cell (World.block_lt_of_cell? _ _ t5)).trans t5
      have s40 := (hJ.cell (World.block_lt_of_cell? _ _ t40)).trans t40
      have s41 := (hJ.cell (World.block_lt_of_cell? _ _ t41)).trans t41
      have sf := (hJ.cell (World.block_lt_of_cell? _ _ tf)).trans tf
      obtain ⟨ht, hs, hne, hBB⟩ := unhide HT
      have HTop := hide (topped_any M l' a2 c2 f W s5 ((unhide HO3).grow hJ).rowD ht hs hne)
      obtain ⟨rb, ra, hrb, hrl⟩ := OwnD.some (unhide HO3) hne
      have HN4 : Hid (W.heap[w.heap.size + 1]? = some (.cells #[.slice none 0 0, .int .i64 0, .int .i64 0] 187 (0, 0))) := (hJ.block _ (Array.getElem?_eq_some_iff.1 (unhide HN3)).1).trans (unhide HN3)
      have HJ := hide hJ
      have HD := hide hD
      have HRB := hide (And.intro ra (And.intro hrb (And.intro hrl hBB)))
      have HR4 := hide ((unhide HO3).grow hJ).rowD
      clear hJ hD t1 t5 t40 t41 tf s5 ht hs hne hBB ra hrb hrl q0 HN3 HO3 HL
      go_wp2_with fail
      refine (unhide HTop).mono ?_
      rintro e w7 ⟨g, rfl, hg, hgb, hb⟩
      have hn := (hb.block _ (Array.getElem?_eq_some_iff.1 (unhide HN4)).1).trans (unhide HN4)
      obtain ⟨hc, hf⟩ := blk_facts hn
      have z0 := hc 0 _ rfl
      have z1 := hc 1 _ rfl
      have z2 := hc 2 _ rfl
      have HG := hide (And.intro hg (And.intro hgb hb))
      clear hc hn hg hgb hb HTop HN4 s1 s40 s41 sf
      go_wp2
      obtain ⟨hg, hgb, hb⟩ := unhide HG
      obtain ⟨ra, hrb, hrl, hBB⟩ := unhide HRB
      obtain rfl := ra
      have hj := unhide HJ
      have hz := unhide HZ
      have hw1 := unhide HW1
      have hbc := unhide HBC3
      have hjs := hj.size
      have hDl : w6.heap.size < W.heap.size := (Array.getElem?_eq_some_iff.1 (unhide HD)).1
      have hws := hbc.size
      have hDr := (hb.block _ (Array.getElem?_eq_some_iff.1 (unhide HD)).1).trans (unhide HD)
      have hkeep : ∀ x, x ≠ w.heap.size + 1 → (((w7.setCell ⟨w.heap.size + 1, 0, none⟩ (.slice (some ⟨g, 0, none⟩) 1 1)).setCell ⟨w.heap.size + 1, 1, none⟩ (.int .i64 0)).setCell ⟨w.heap.size + 1, 2, none⟩ (.int .i64 1)).heap[x]? = w7.heap[x]? := fun x hx =>
        (Below.heap_setCell _ _ _ x hx).trans ((Below.heap_setCell _ _ _ x hx).trans (Below.heap_setCell _ _ _ x hx))
      have hDn : w6.heap.size ≠ w.heap.size + 1 := by omega
      refine ⟨by simp, .inl ⟨_, _, rfl, run_takeDeferred ((hkeep _ hDn).trans hDr), ?_⟩⟩
      have xc0 := cell_off (v := .int .i64 1) (x := w.heap.size + 1) (j := 2) (cell_off (v := .int .i64 0) (x := w.heap.size + 1) (j := 1) (World.cell?_setCell_same w7 ⟨w.heap.size + 1, 0, none⟩ (.slice (some ⟨g, 0, none⟩) 1 1) z0) (.inr (by decide))) (.inr (by decide))
      have xc1 := cell_off (v := .int .i64 1) (x := w.heap.size + 1) (j := 2) (World.cell?_setCell_same _ ⟨w.heap.size + 1, 1, none⟩ (.int .i64 0) (cell_off (v := .slice (some ⟨g, 0, none⟩) 1 1) (x := w.heap.size + 1) (j := 0) z1 (.inr (by decide)))) (.inr (by decide))
      have xc2 := World.cell?_setCell_same _ ⟨w.heap.size + 1, 2, none⟩ (.int .i64 1) (cell_off (v := .int .i64 0) (x := w.heap.size + 1) (j := 1) (cell_off (v := .slice (some ⟨g, 0, none⟩) 1 1) (x := w.heap.size + 1) (j := 0) z2 (.inr (by decide))) (.inr (by decide)))
      have hBX : Below w.heap.size w ((((w7.setCell ⟨w.heap.size + 1, 0, none⟩ (.slice (some ⟨g, 0, none⟩) 1 1)).setCell ⟨w.heap.size + 1, 1, none⟩ (.int .i64 0)).setCell ⟨w.heap.size + 1, 2, none⟩ (.int .i64 1)).putObj w6.heap.size (.deferred none)) :=
        below_putObj (L6.below_store (L6.below_store (L6.below_store (below_then hbc (below_then hj hb)) (w.heap.size + 1) 0 _ (by omega)) (w.heap.size + 1) 1 _ (by omega)) (w.heap.size + 1) 2 _ (by omega)) (by omega) _
      have hR7 := (unhide HR4).grow hb
      generalize (((w7.setCell ⟨w.heap.size + 1, 0, none⟩ (.slice (some ⟨g, 0, none⟩) 1 1)).setCell ⟨w.heap.size + 1, 1, none⟩ (.int .i64 0)).setCell ⟨w.heap.size + 1, 2, none⟩ (.int .i64 1)) = X at *
      have pc : ∀ i u, X.cell? ⟨w.heap.size + 1, i, none⟩ = some u → (X.putObj w6.heap.size (.deferred none)).cell? ⟨w.heap.size + 1, i, none⟩ = some u := fun i u hu => (World.cell?_of_block (World.putObj_heap_other (by show w.heap.size + 1 ≠ w6.heap.size; omega))).trans hu
      have pc0 := pc _ _ xc0
      have pc1 := pc _ _ xc1
      have pc2 := pc _ _ xc2
      refine ⟨planV g, ?_, g, rfl, by omega, ⟨rb, 0, c2, ?_, RowD.same hR7 ?_, by omega⟩, hBX⟩
      · rw [results_cell rfl]
        unfold planV
        go_simp <;> rfl
      · exact (World.putObj_heap_other (by omega)).trans ((hkeep g (by omega)).trans hgb)
      · exact (World.putObj_heap_other (by omega)).trans (hkeep rb (by omega))
end Go.Proofs.YtdelobaiicoogaaGreatDoor
