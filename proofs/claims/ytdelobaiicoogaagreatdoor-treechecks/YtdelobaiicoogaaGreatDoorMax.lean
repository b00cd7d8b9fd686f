/- Texts that the proof needs, one behind the other. -/
import Derived.Test.YtdelobaiicoogaaGreatDoorMaw
import Derived.RangeFuncBox
import Derived.Maps.OwnIn
import Derived.Test.YtdelobaiicoogaaGreatDoorMar
import Derived.Test.YtdelobaiicoogaaGreatDoorMap
/- Range of a tree that is one leaf. -/
namespace Go.Proofs.YtdelobaiicoogaaGreatDoor
open Go.ChangeShapes Go.WideShapes Go.ChangeAt Go.RowKit
attribute [local go_sem] Oper.semAt_some
variable {w w' : World} {p d : Nat} {h : Hp} {c : Nat} {F : List Nat}

theorem cell_at (w : World) (v : Value) (t : TypeId) : (w.alloc (.cells #[v] t)).cell? ⟨w.heap.size, 0, none⟩ = some v := by simp
theorem cell_later {w : World} {a : Addr} {v : Value} (o : Obj) (h : w.cell? a = some v) : (w.alloc o).cell? a = some v := ((below_alloc w o).cell (World.block_lt_of_cell? _ _ h)).trans h
set_option maxHeartbeats 1000000 in
theorem items_any (b x : Nat) (fr to' : ByteArray) (w : World) : Calls Tryz.prog 50 #[.pointer (some ⟨b, 0, none⟩), .int .i64 (x : Int), .string fr, .string to'] w fun e w' =>
    e = .returned (.func (.func 87) #[] #[.pointer (some ⟨w.heap.size, 0, none⟩), .pointer (some ⟨w.heap.size + 1, 0, none⟩), .pointer (some ⟨w.heap.size + 2, 0, none⟩), .pointer (some ⟨w.heap.size + 3, 0, none⟩)]) ∧
    w'.cell? ⟨w.heap.size, 0, none⟩ = some (.pointer (some ⟨b, 0, none⟩)) ∧ w'.cell? ⟨w.heap.size + 1, 0, none⟩ = some (.int .i64 (x : Int)) ∧ w'.cell? ⟨w.heap.size + 2, 0, none⟩ = some (.string fr) ∧ w'.cell? ⟨w.heap.size + 3, 0, none⟩ = some (.string to') ∧ Below w.heap.size w w' ∧ w'.heap.size = w.heap.size + 4 := by
  go_enter Tryz.func50, Tryz.ntmps50
  go_wp2
  go_ret
  have s1 : ∀ o : Obj, (w.alloc o).heap.size = w.heap.size + 1 := fun o => World.size_alloc _ _
  refine ⟨rfl, ?_, ?_, ?_, ?_, ?_, ?_⟩
  · exact cell_later _ (cell_later _ (cell_later _ (cell_at _ _ _)))
  · refine cell_later _ (cell_later _ ?_)
    have := cell_at (w.alloc (.cells #[.pointer (some ⟨b, 0, none⟩)] 124)) (.int .i64 (x : Int)) 3
    rw [World.size_alloc] at this
    exact this
  · refine cell_later _ ?_
    have := cell_at ((w.alloc (.cells #[.pointer (some ⟨b, 0, none⟩)] 124)).alloc (.cells #[.int .i64 (x : Int)] 3)) (.string fr) 9
    rw [World.size_alloc, World.size_alloc] at this
    exact this
  · have := cell_at (((w.alloc (.cells #[.pointer (some ⟨b, 0, none⟩)] 124)).alloc (.cells #[.int .i64 (x : Int)] 3)).alloc (.cells #[.string fr] 9)) (.string to') 9
    rw [World.size_alloc, World.size_alloc, World.size_alloc] at this
    exact this
  · exact below_then (below_then (below_then (below_alloc _ _) (below_alloc _ _)) (below_alloc _ _)) (below_alloc _ _)
  · rw [World.size_alloc, World.size_alloc, World.size_alloc, World.size_alloc]

set_option maxRecDepth 100000 in
set_option maxHeartbeats 4000000 in
theorem items1_leaf (m L x b mb k B1 B2 B3 B4 : Nat) (hx : x < 4096) (f : Nat → Option Value) (fr to' : ByteArray) (its : List L6.It) (J : List L6.It → World → Prop) (X : List L6.It → World → Prop) (K : World → World → Prop) (Off : Nat → World → Prop) (W : World)
    (H : IsHeap W p d h c F) (hW : WalkAt W b p mb 0 k f) (hf : f x = none) (hF : mb ∉ F) (h0 : 0 < mb) (hk : k ≤ 100000)
    (hget : getR h (x : Int) = (⟨true, its, []⟩, 0)) (hlen : its.length ≤ 1100) (hne : its ≠ [])
    (hJ0 : ∀ W1, Moves [mb] W W1 → WalkAt W1 b p mb 0 (k + 1) (setF f x) → IsHeap W1 p d h c F → J [] W1)
    (hJb : ∀ pre W1 W2, J pre W1 → Below W1.heap.size W1 W2 → J pre W2)
    (hOff : ∀ W1 g o v, J [] W1 → W1.cell? ⟨g, o + 1, none⟩ = some v → Off g W1)
    (hOb : ∀ g W1 W2, Off g W1 → Below W1.heap.size W1 W2 → Off g W2)
    (hKO : ∀ W1 W2 g, K W1 W2 → Off g W1 → g < W1.heap.size → W2.heap[g]? = W1.heap[g]? ∧ Off g W2)
    (hY : ∀ pre y W1, J pre W1 → pre.length < 2000 → YieldAt Fence.wide m Tryz.prog L #[.agg #[.string y.1, .string y.2]] W1 fun e W2 =>
      (e = .returned (.bool true) ∧ J (pre ++ [y]) W2 ∧ K W1 W2) ∨ (e = .returned (.bool false) ∧ X (pre ++ [y]) W2))
    (q1 : W.cell? ⟨B1, 0, none⟩ = some (.pointer (some ⟨b, 0, none⟩))) (q2 : W.cell? ⟨B2, 0, none⟩ = some (.int .i64 (x : Int))) (q3 : W.cell? ⟨B3, 0, none⟩ = some (.string fr)) (q4 : W.cell? ⟨B4, 0, none⟩ = some (.string to')) :
    CallsIn Fence.wide m Tryz.prog 87 #[.func (.yield L) #[] #[], .pointer (some ⟨B1, 0, none⟩), .pointer (some ⟨B2, 0, none⟩), .pointer (some ⟨B3, 0, none⟩), .pointer (some ⟨B4, 0, none⟩)] W fun e W' =>
      (∃ v, e = .returned v) ∧ (J (leafR its fr to') W' ∨ ∃ pre, pre <+: leafR its fr to' ∧ X pre W') := by
  have HC := hide (below_leaf m L x b mb k hx f fr to' its J X K Off W H hW hf hF h0 hk hget hlen hne hJ0 hJb hOff hOb hKO hY)
  clear H hW hf hF h0 hk hget hJ0 hJb hOff hOb hKO hY
  refine callsIn_of_wp Tryz.func87 rfl trivial ?_ rfl
  simp only [Tryz.ntmps87, List.size_toArray, List.length_cons, List.length_nil, Nat.reduceAdd, Nat.reduceSub, Array.replicate_succ, Array.replicate_zero, List.push_toArray, List.append_toArray, List.nil_append, List.cons_append]
  gi_wp2_with fail
  refine ⟨trivial, fun h => (by cases h), ?_⟩
  refine (Rf.calls_any (unhide HC)).mono ?_
  rintro e w1 ⟨⟨v, rfl⟩, hr⟩
  have HR := hide hr
  clear hr
  gi_wp2
  go_end0
  exact ⟨⟨_, rfl⟩, unhide HR⟩

/-- what Range lays ahead of its loop -/
def rangeW (p most x : Nat) (w : World) : World := ((((w.alloc (.cells #[.int .i64 (most : Int)] 3)).alloc (.cells #[.int .i64 (x : Int)] 3)).alloc (.cells #[.slice none 0 0] 35)).alloc (.map #[] 0)).alloc (.cells #[.pointer (some ⟨p, 0, none⟩), .map (some (w.heap.size + 1 + 1 + 1)), .int .i64 0] 105)
theorem range_mem (p most x : Nat) (w : World) : WalkAt (rangeW p most x w) (w.heap.size + 1 + 1 + 1 + 1) p (w.heap.size + 1 + 1 + 1) 0 0 (fun _ => none) ∧
    (rangeW p most x w).heap[w.heap.size + 1 + 1]? = some (.cells #[.slice none 0 0] 35 (0, 0)) ∧ (rangeW p most x w).heap[w.heap.size]? = some (.cells #[.int .i64 (most : Int)] 3 (0, 0)) ∧ Below w.heap.size w (rangeW p most x w) ∧ (rangeW p most x w).heap.size = w.heap.size + 5 := by
  unfold rangeW
  obtain ⟨w1, h1⟩ : ∃ y, y = w.alloc (.cells #[.int .i64 (most : Int)] 3) := ⟨_, rfl⟩
  obtain ⟨w2, h2⟩ : ∃ y, y = w1.alloc (.cells #[.int .i64 (x : Int)] 3) := ⟨_, rfl⟩
  obtain ⟨w3, h3⟩ : ∃ y, y = w2.alloc (.cells #[.slice none 0 0] 35) := ⟨_, rfl⟩
  obtain ⟨w4, h4⟩ : ∃ y, y = w3.alloc (.map #[] 0) := ⟨_, rfl⟩
  have s1 : w1.heap.size = w.heap.size + 1 := by rw [h1, World.size_alloc]
  have s2 : w2.heap.size = w.heap.size + 1 + 1 := by rw [h2, World.size_alloc, s1]
  have s3 : w3.heap.size = w.heap.size + 1 + 1 + 1 := by rw [h3, World.size_alloc, s2]
  have s4 : w4.heap.size = w.heap.size + 1 + 1 + 1 + 1 := by rw [h4, World.size_alloc, s3]
  rw [← h1, ← h2, ← h3, ← h4, ← s4, ← s3]
  have bb4 := below_alloc w4 (.cells #[.pointer (some ⟨p, 0, none⟩), .map (some w3.heap.size), .int .i64 0] 105)
  have bb3 : Below w3.heap.size w3 w4 := by rw [h4]; exact below_alloc _ _
  have bb2 : Below w2.heap.size w2 w3 := by rw [h3]; exact below_alloc _ _
  have bb1 : Below w1.heap.size w1 w2 := by rw [h2]; exact below_alloc _ _
  have bb0 : Below w.heap.size w w1 := by rw [h1]; exact below_alloc _ _
  refine ⟨⟨heap_alloc_new w4 _, ?_⟩, ?_, ?_, below_then (below_then (below_then (below_then bb0 bb1) bb2) bb3) bb4, by rw [World.size_alloc, s4]⟩
  · have hv : Vm stR w4 w3.heap.size 0 (fun _ => none) := by rw [h4]; exact Vm.made stR w3
    exact hv.same (bb4.block _ hv.lt)
  · have hv : w3.heap[w2.heap.size]? = some (.cells #[.slice none 0 0] 35 (0, 0)) := by rw [h3]; exact heap_alloc_new w2 _
    rw [← s2]
    have l3 := (Array.getElem?_eq_some_iff.1 hv).1
    exact (bb4.block _ (by omega)).trans ((bb3.block _ l3).trans hv)
  · have hv : w1.heap[w.heap.size]? = some (.cells #[.int .i64 (most : Int)] 3 (0, 0)) := by rw [h1]; exact heap_alloc_new w _
    exact (bb4.block _ (by omega)).trans ((bb3.block _ (by omega)).trans ((bb2.block _ (by omega)).trans ((bb1.block _ (by omega)).trans hv)))

/-- the block of the list's row -/
def own (LB : Nat) (W : World) : Option Nat := (W.cell? ⟨LB, 0, none⟩).bind Value.ownBlock
/-- while Range goes round -/
structure St (w w2 : World) (MB LB mb b p most : Nat) (pre : List L6.It) (W : World) (v : Value) : Prop where
  box : W.heap[LB]? = some (.cells #[v] 35 (0, 0))
  row : OwnI (w2.heap.size + 2) W v pre
  mst : W.heap[MB]? = some (.cells #[.int .i64 (most : Int)] 3 (0, 0))
  bel : Below w.heap.size w W
  sz : w2.heap.size ≤ W.heap.size
  wlk : ∃ k f, WalkAt W b p mb 0 k f
  emp : pre = [] → v = .slice none 0 0
theorem St.own {w w2 : World} {MB LB mb b p most : Nat} {pre : List L6.It} {W : World} {v : Value} (h : St w w2 MB LB mb b p most pre W v) : own LB W = v.ownBlock := by
  unfold Go.Proofs.YtdelobaiicoogaaGreatDoor.own
  simp [World.cell?, h.box]
/-- it stays where all its blocks stay -/
theorem St.same {w w2 : World} {MB LB mb b p most : Nat} {pre : List L6.It} {W W' : World} {v : Value} (h : St w w2 MB LB mb b p most pre W v) (hb : Below w.heap.size w W') (hs : W.heap.size ≤ W'.heap.size)
    (h1 : W'.heap[LB]? = W.heap[LB]?) (h2 : ∀ g, v.ownBlock = some g → W'.heap[g]? = W.heap[g]?) (h3 : W'.heap[MB]? = W.heap[MB]?) (h4 : W'.heap[b]? = W.heap[b]?) (h5 : W'.heap[mb]? = W.heap[mb]?) : St w w2 MB LB mb b p most pre W' v := by
  obtain ⟨k, f, hw⟩ := h.wlk
  exact ⟨h1.trans h.box, L6.ownsRow_same h.row h2, h3.trans h.mst, hb, Nat.le_trans h.sz hs, ⟨k, f, h4.trans hw.blk, hw.met.same h5⟩, h.emp⟩
theorem St.grow {w w2 : World} {MB LB mb b p most : Nat} {pre : List L6.It} {W W' : World} {v : Value} (h : St w w2 MB LB mb b p most pre W v) (hb : Below W.heap.size W W') : St w w2 MB LB mb b p most pre W' v := by
  obtain ⟨k, f, hw⟩ := h.wlk
  exact h.same (below_then h.bel hb) hb.size (hb.block _ (Array.getElem?_eq_some_iff.1 h.box).1) (fun g hg => hb.block g (World.ownsRow.lt h.row g hg).2) (hb.block _ (Array.getElem?_eq_some_iff.1 h.mst).1) (hb.block _ hw.lt) (hb.block _ hw.met.lt)
/-- the loop's record is none of these -/
theorem St.put {w w2 : World} {MB LB mb b p most : Nat} {pre : List L6.It} {W : World} {v : Value} (h : St w w2 MB LB mb b p most pre W v) {L : Nat} {r o : Loop} (hL : W.heap[L]? = some (.loop r)) (hl : w.heap.size ≤ L) : St w w2 MB LB mb b p most pre (W.putObj L (.loop o)) v := by
  obtain ⟨k, f, hw⟩ := h.wlk
  have hne : ∀ x, (∃ cs t, W.heap[x]? = some (.cells cs t (0, 0))) → x ≠ L := fun x hx e => by
    obtain ⟨cs, t, hx⟩ := hx
    rw [e, hL] at hx
    cases hx
  have hlt := (Array.getElem?_eq_some_iff.1 hL).1
  refine h.same ?_ (by simp [World.putObj]) (World.putObj_heap_other (hne _ ⟨_, _, h.box⟩)) (fun g hg => World.putObj_heap_other (hne _ ?_)) (World.putObj_heap_other (hne _ ⟨_, _, h.mst⟩)) (World.putObj_heap_other (hne _ ⟨_, _, hw.blk⟩)) (World.putObj_heap_other (fun e => ?_))
  · have hb := h.bel
    exact ⟨hb.os, hb.tape, hb.output, by have := hb.size; simpa [World.putObj] using this, fun k hk => (World.putObj_heap_other (by omega)).trans (hb.block k hk)⟩
  · obtain ⟨cur, hc⟩ := L6.ownsRow_kind h.row hg
    exact ⟨_, _, hc⟩
  · obtain ⟨es, cl, hm⟩ := hw.met.kind
    rw [e, hL] at hm
    cases hm
/-- what a round of Range keeps: all blocks but the list's box, the loop's record and the list's own row -/
structure Kr (LB L : Nat) (W W' : World) : Prop where
  keep : ∀ g, g < W.heap.size → g ≠ LB → g ≠ L → own LB W ≠ some g → W'.heap[g]? = W.heap[g]?
  own : Go.Proofs.YtdelobaiicoogaaGreatDoor.own LB W' = Go.Proofs.YtdelobaiicoogaaGreatDoor.own LB W ∨ ∃ g, Go.Proofs.YtdelobaiicoogaaGreatDoor.own LB W' = some g ∧ W.heap.size ≤ g
  size : W.heap.size ≤ W'.heap.size
theorem Kr.trans {LB L : Nat} {A B C : World} (h : Kr LB L A B) (k : Kr LB L B C) : Kr LB L A C := by
  refine ⟨fun g h1 h2 h3 h4 => ?_, ?_, Nat.le_trans h.size k.size⟩
  · have hn : Go.Proofs.YtdelobaiicoogaaGreatDoor.own LB B ≠ some g := by
      rcases h.own with e | ⟨g', e, hg⟩
      · rw [e]; exact h4
      · rw [e]; intro e'; cases e'; omega
    exact (k.keep g (Nat.lt_of_lt_of_le h1 h.size) h2 h3 hn).trans (h.keep g h1 h2 h3 h4)
  · rcases k.own with e | ⟨g, e, hg⟩
    · rw [e]
      exact h.own
    · exact .inr ⟨g, e, Nat.le_trans h.size hg⟩
theorem Kr.of_below {w w2 : World} {MB LB mb b p most L : Nat} {pre : List L6.It} {W W' : World} {v : Value} (h : St w w2 MB LB mb b p most pre W v) (hb : Below W.heap.size W W') : Kr LB L W W' :=
  ⟨fun g h1 _ _ _ => hb.block g h1, .inl ((h.grow hb).own.trans h.own.symm), hb.size⟩
theorem St.err {w w2 : World} {MB LB mb b p most : Nat} {pre : List L6.It} {W : World} {v : Value} (h : St w w2 MB LB mb b p most pre W v) : W.cell? ⟨b, 2, none⟩ = some (.int .i64 0) := by
  obtain ⟨k, f, hw⟩ := h.wlk
  simp [World.cell?, hw.blk]
theorem St.fin {w w2 : World} {MB LB mb b p most D : Nat} {pre : List L6.It} {W : World} {v : Value} {o : Obj} {ds : Option (List Deferred)} (h : St w w2 MB LB mb b p most pre W v) (hD : W.heap[D]? = some (.deferred ds)) (hl : w.heap.size ≤ D) (hs : w.heap.size ≤ w2.heap.size) :
    OwnI w.heap.size (W.putObj D o) v pre ∧ Below w.heap.size w (W.putObj D o) := by
  refine ⟨L6.ownsRow_base (L6.ownsRow_same h.row (fun g hg => World.putObj_heap_other ?_)) (by omega), ?_⟩
  · obtain ⟨cur, hc⟩ := L6.ownsRow_kind h.row hg
    intro e
    rw [e, hD] at hc
    cases hc
  · have hb := h.bel
    exact ⟨hb.os, hb.tape, hb.output, by have := hb.size; simpa [World.putObj] using this, fun k hk => (World.putObj_heap_other (by omega)).trans (hb.block k hk)⟩
theorem cell_box {W : World} {B : Nat} {v : Value} {t : TypeId} (h : W.heap[B]? = some (.cells #[v] t (0, 0))) : W.cell? ⟨B, 0, none⟩ = some v := by simp [World.cell?, h]
/-- behind the append and the store -/
theorem St.app {w w2 : World} {MB LB mb b p most L : Nat} {pre : List L6.It} {y : L6.It} {W w1 : World} {v v' : Value} {tmp : Obj} (h : St w w2 MB LB mb b p most pre W v) (hW : w2.heap.size + 1 < W.heap.size)
    (hd : w.heap.size ≤ LB ∧ LB < w2.heap.size ∧ MB < w2.heap.size ∧ mb < w2.heap.size ∧ b < w2.heap.size ∧ MB ≠ LB ∧ mb ≠ LB ∧ b ≠ LB) (hs2 : w.heap.size ≤ w2.heap.size)
    (hown' : w1.ownsRow (w2.heap.size + 2) 58 2 v' (pre.length + 1) (L6.pairs itV pre ++ [.string y.1, .string y.2])) (hgrow : (W.alloc tmp).grownBy w1 v.ownBlock) (hat : v'.ownBlock = v.ownBlock ∨ v'.ownBlock = some (W.alloc tmp).heap.size) :
    St w w2 MB LB mb b p most (pre ++ [y]) (w1.setCell ⟨LB, 0, none⟩ v') v' ∧ Kr LB L W (w1.setCell ⟨LB, 0, none⟩ v') ∧ (∀ g, g < w2.heap.size + 2 → g ≠ LB → (w1.setCell ⟨LB, 0, none⟩ v').heap[g]? = W.heap[g]?) ∧ Boxed w1 LB 35 v := by
  obtain ⟨d1, d2, d3, d4, d5, d6, d7, d8⟩ := hd
  have hbx : Boxed W LB 35 v := h.box
  obtain ⟨hv1, hv2, hr2, hk2, hb2⟩ := hbx.appended (n₀ := w.heap.size) (tmp := tmp) (e := 58) (by decide) (L6.ownsRow_base h.row (by omega)) (by have := h.bel.size; omega) d1 (L6.ownsRow_base hown' (by omega)) hgrow
  have hown2 : (w1.setCell ⟨LB, 0, none⟩ v').ownsRow (w2.heap.size + 2) 58 2 v' (pre.length + 1) (L6.pairs itV pre ++ [.string y.1, .string y.2]) := hown'.kept (grownBy_setCell' w1 LB v') (.inr (hv1.not_row (by decide) hown').symm)
  have hkeep : ∀ g, g < W.heap.size → g ≠ LB → v.ownBlock ≠ some g → (w1.setCell ⟨LB, 0, none⟩ v').heap[g]? = W.heap[g]? := by
    intro g h1 h2 h3
    have e1 : (w1.setCell ⟨LB, 0, none⟩ v').heap[g]? = w1.heap[g]? := Below.heap_setCell _ _ _ g (fun e => h2 (by rw [e]))
    exact e1.trans ((hgrow.block g (by rw [World.size_alloc]; omega) (fun e => h3 e.symm)).trans (Below.heap_alloc _ _ _ h1))
  have hlow : ∀ g, g < w2.heap.size + 2 → g ≠ LB → (w1.setCell ⟨LB, 0, none⟩ v').heap[g]? = W.heap[g]? := fun g h1 h2 => hkeep g (by omega) h2 (fun e => by have := (World.ownsRow.lt h.row g e).1; omega)
  have hsz : W.heap.size ≤ (w1.setCell ⟨LB, 0, none⟩ v').heap.size := by
    have h1 := hgrow.size
    rw [World.size_alloc] at h1
    have h2 := (grownBy_setCell' w1 LB v').size
    omega
  obtain ⟨k, f, hw⟩ := h.wlk
  have hS : St w w2 MB LB mb b p most (pre ++ [y]) (w1.setCell ⟨LB, 0, none⟩ v') v' := ⟨hv2, L6.OwnE.snoc hown2, (hlow _ (by omega) d6).trans h.mst, h.bel.trans hb2, Nat.le_trans h.sz hsz, ⟨k, f, (hlow _ (by omega) d8).trans hw.blk, hw.met.same (hlow _ (by omega) d7)⟩, fun e => by simp at e⟩
  refine ⟨hS, ⟨fun g h1 h2 h3 h4 => hkeep g h1 h2 (by rw [h.own] at h4; exact h4), ?_, hsz⟩, hlow, hv1⟩
  rw [hS.own, h.own]
  rcases hat with e | e
  · exact .inl e
  · exact .inr ⟨_, e, by rw [World.size_alloc]; omega⟩
theorem Kr.put {LB L : Nat} {W : World} {o : Obj} (hne : LB ≠ L) : Kr LB L W (W.putObj L o) := by
  refine ⟨fun g _ _ h3 _ => World.putObj_heap_other h3, .inl ?_, by simp [World.putObj]⟩
  unfold Go.Proofs.YtdelobaiicoogaaGreatDoor.own
  simp [World.cell?, World.putObj_heap_other hne]
set_option maxRecDepth 100000 in
set_option maxHeartbeats 4000000 in
theorem range_leaf (x : Nat) (hx : x < 4096) (hx0 : x ≠ 0) (fr to' : ByteArray) (most : Nat) (hm1 : 1 ≤ most) (hm2 : most ≤ 1000000) (its : List L6.It) (w : World) (H : IsHeap w p d h c F)
    (hget : getR h (x : Int) = (⟨true, its, []⟩, 0)) (hcnt : h.cnt (x : Int) ≠ 0) (hlen : its.length ≤ 1100) (hne : its ≠ []) :
    Calls Tryz.prog 17 #[.pointer (some ⟨p, 0, none⟩), .int .i64 (x : Int), .string fr, .string to', .int .i64 (most : Int)] w fun e w' => ∃ v, e = .returned (.tuple #[v, .int .i64 0]) ∧ OwnI w.heap.size w' v ((leafR its fr to').take most) ∧ Below w.heap.size w w' := by
  have HE : Hid (heldE h [(x : Int)] = 0) := heldE_is hcnt
  have hb1 := below_then (below_alloc w (.cells #[.int .i64 (most : Int)] 3)) (below_alloc _ (.cells #[.int .i64 (x : Int)] 3))
  have HH := hide (H.grow hb1)
  have HB1 := hide hb1
  have HI : Hid (L5.I64 (x : Int)) := by show L5.I64 _; unfold L5.I64; omega
  have hxn : ((x : Int) == 0) = false := beq_eq_false_iff_ne.2 (by omega)
  have hmn : ¬ (most : Int) < 1 := by omega
  have hmm := @run_makeMap Tryz.prog
  clear hb1
  refine (callsIn_wide (n := 9)).1 ?_
  refine callsIn_of_wp_marks Tryz.func17 rfl trivial ?_ rfl
  simp only [Tryz.ntmps17, List.size_toArray, List.length_cons, List.length_nil, Nat.reduceAdd, Nat.reduceSub, Array.replicate_succ, Array.replicate_zero, List.push_toArray, List.append_toArray, List.nil_append, List.cons_append]
  gi_wp2_with (first
    | (refine ⟨trivial, ?_⟩; gi_at_call 39; refine (callsIn_wide.2 (theld_one (x : Int) _ _ (unhide HH) (unhide HI) (by simp))).mono ?_; rintro e w1 ⟨rfl, hw⟩; rw [hw]; clear hw w1; rw [unhide HE])
    | (refine ⟨trivial, ?_⟩; gi_at_call 50; refine (callsIn_wide.2 (items_any _ x fr to' _)).mono ?_; rintro e w2 ⟨rfl, b1, b2, b3, b4, hb2, hs2⟩; have HX2 := hide (And.intro b1 (And.intro b2 (And.intro b3 (And.intro b4 (And.intro hb2 hs2))))); clear b1 b2 b3 b4 hb2 hs2))
  clear hmm
  obtain ⟨b1, b2, b3, b4, hb2, hs2⟩ := unhide HX2
  obtain ⟨hwk, hbx, hms, hbl, hrs⟩ := range_mem p most x w
  have hb2' : Below (rangeW p most x w).heap.size (rangeW p most x w) w2 := hb2
  have hs2' : w2.heap.size = (rangeW p most x w).heap.size + 4 := hs2
  have c1 : w2.cell? ⟨(rangeW p most x w).heap.size, 0, none⟩ = some (.pointer (some ⟨w.heap.size + 1 + 1 + 1 + 1, 0, none⟩)) := b1
  have c2 : w2.cell? ⟨(rangeW p most x w).heap.size + 1, 0, none⟩ = some (.int .i64 (x : Int)) := b2
  have c3 : w2.cell? ⟨(rangeW p most x w).heap.size + 2, 0, none⟩ = some (.string fr) := b3
  have c4 : w2.cell? ⟨(rangeW p most x w).heap.size + 3, 0, none⟩ = some (.string to') := b4
  rw [hrs] at c1 c2 c3 c4 hs2'
  have hS0 : St w w2 w.heap.size (w.heap.size + 1 + 1) (w.heap.size + 1 + 1 + 1) (w.heap.size + 1 + 1 + 1 + 1) p most [] w2 (.slice none 0 0) := by
    exact ⟨(hb2'.block _ (Array.getElem?_eq_some_iff.1 hbx).1).trans hbx, L6.OwnE.nil _ _ _ _, (hb2'.block _ (Array.getElem?_eq_some_iff.1 hms).1).trans hms, below_then hbl hb2', Nat.le_refl _, ⟨0, _, hwk.grow hb2'⟩, fun _ => rfl⟩
  have hW0 := hwk.grow hb2'
  have hH0 : IsHeap w2 p d h c F := (H.grow hbl).grow hb2'
  have hFm : w.heap.size + 1 + 1 + 1 ∉ F := fun hx => by have := H.lt _ hx; omega
  have HS0 := hide hS0
  have HW0 := hide hW0
  have HH0 := hide hH0
  have HFM := hide hFm
  have HCC := hide (And.intro c1 (And.intro c2 (And.intro c3 c4)))
  have HSZ := hide hs2'
  have HGET := hide hget
  clear b1 b2 b3 b4 hb2 hs2 hwk hbx hms hbl hrs hb2' hs2' c1 c2 c3 c4 hS0 hW0 hH0 hFm HX2 HH HB1 HE HI H hget hcnt
  refine Rf.law_box (α := L6.It) rfl (enters_of Tryz.func87 (by kernel_rfl) rfl) (fun y => #[.agg #[.string y.1, .string y.2]]) (fun _ => rfl)
    (fun pre W => pre.length < most ∧ ∃ v, St w w2 w.heap.size (w.heap.size + 1 + 1) (w.heap.size + 1 + 1 + 1) (w.heap.size + 1 + 1 + 1 + 1) p most pre W v)
    (fun c pre W => c = .exit 0 ∧ pre.length = most ∧ ∃ v, St w w2 w.heap.size (w.heap.size + 1 + 1) (w.heap.size + 1 + 1 + 1) (w.heap.size + 1 + 1 + 1 + 1) p most pre W v)
    (Kr (w.heap.size + 1 + 1) (w2.heap.size + 1)) Kr.trans ?hKp ?hJp ?hXp
    (fun t y i => { tmps := (t.setIfInBounds 40 (.agg #[.string y.1, .string y.2])).setIfInBounds 15 (.pointer (some ⟨i, 0, none⟩)), defers := [] })
    (fun (pre : List L6.It) (y : L6.It) (IB : Nat) (W : World) => W.heap[IB]? = some (.cells #[.string y.1, .string y.2] 58 (0, 0)) ∧ pre.length < most ∧ ∃ v, St w w2 w.heap.size (w.heap.size + 1 + 1) (w.heap.size + 1 + 1 + 1) (w.heap.size + 1 + 1 + 1 + 1) p most pre W v) ?hBp ?assign ?body (fun xs => xs = leafR its fr to') (fun pre => pre <+: leafR its fr to') ?iter ?done ?stop
  case hKp =>
    intro W r o _
    exact Kr.put (by have := unhide HSZ; omega)
  case hJp =>
    rintro pre W r o hL ⟨h1, v, h2⟩
    exact ⟨h1, v, h2.put hL (by have := unhide HSZ; omega)⟩
  case hXp =>
    rintro c pre W r o hL ⟨h0, h1, v, h2⟩
    exact ⟨h0, h1, v, h2.put hL (by have := unhide HSZ; omega)⟩
  case hBp =>
    rintro pre y i W r o hL ⟨h0, h1, v, h2⟩
    refine ⟨(World.putObj_heap_other (fun e => ?_)).trans h0, h1, v, h2.put hL (by have := unhide HSZ; omega)⟩
    rw [e, hL] at h0
    cases h0
  case assign =>
    rintro pre y W hlt ⟨h1, v, h2⟩
    have hb3 := below_alloc W (.cells #[.string y.1, .string y.2] 58)
    have hnew : (W.alloc (.cells #[.string y.1, .string y.2] 58)).heap[W.heap.size]? = some (.cells #[.string y.1, .string y.2] 58 (0, 0)) := heap_alloc_new W _
    have HX := hide (And.intro h1 (And.intro (h2.grow hb3) (And.intro hnew hb3)))
    have HK := hide (Kr.of_below (L := w2.heap.size + 1) h2 hb3)
    have HL := hide hlt
    clear h1 h2 hnew hb3 hlt
    gi_wp2
    obtain ⟨h1, h2, hnew, hb3⟩ := unhide HX
    have hlt := unhide HL
    exact ⟨⟨hb3.block _ hlt, hb3.block _ (by omega)⟩, ⟨W.heap.size, rfl, hnew, h1, v, h2⟩, unhide HK⟩
  case body =>
    rintro pre y IB W hlt ⟨hib, h1, v, h2⟩
    simp only [List.setIfInBounds_toArray, List.set]
    have cL : W.cell? ⟨w.heap.size + 1 + 1, 0, none⟩ = some v := by simp [World.cell?, h2.box]
    have i0 : W.cell? ⟨IB, 0, none⟩ = some (.string y.1) := by simp [World.cell?, hib]
    have i1 : W.cell? ⟨IB, 1, none⟩ = some (.string y.2) := by simp [World.cell?, hib]
    have cM : W.cell? ⟨w.heap.size, 0, none⟩ = some (.int .i64 (most : Int)) := by simp [World.cell?, h2.mst]
    have H2 := hide h2
    have HL := hide hlt
    have HM := hide h1
    clear h2 hlt hib h1
    obtain ⟨j0, hi, hz0, hz1, hz2⟩ := info_parts L6.info58
    have HD : Hid (w.heap.size ≤ w.heap.size + 1 + 1 ∧ w.heap.size + 1 + 1 < w2.heap.size ∧ w.heap.size < w2.heap.size ∧ w.heap.size + 1 + 1 + 1 < w2.heap.size ∧ w.heap.size + 1 + 1 + 1 + 1 < w2.heap.size ∧ w.heap.size ≠ w.heap.size + 1 + 1 ∧ w.heap.size + 1 + 1 + 1 ≠ w.heap.size + 1 + 1 ∧ w.heap.size + 1 + 1 + 1 + 1 ≠ w.heap.size + 1 + 1) := by have := unhide HSZ; refine ⟨?_, ?_, ?_, ?_, ?_, ?_, ?_, ?_⟩ <;> omega
    have hln : pre.length + 1 ≤ 1000000 := by have := unhide HM; omega
    gi_wp2_with (gi_at_builtin; refine wpListIn_append_own_at _ rfl _ _ 35 rfl (w2.heap.size + 2) 58 j0 (.agg #[.string ByteArray.empty, .string ByteArray.empty]) 2 32 Tryz.underlying35 hi hz0 hz1 hz2 rfl (by decide) v pre.length (L6.pairs itV pre) rfl (World.ownsRow.alloc (unhide H2).row _) ⟨W.heap.size, 0, none⟩ 1 1 [.string y.1, .string y.2] rfl rfl (fun j u hj => by rw [Go.WideShapes.add_plain, Nat.zero_add]; simpa using hj) (by simp [Value.oneCell']) (by unfold maxLen; omega) (by omega) (by rw [World.size_alloc]; have := unhide HL; omega) ?_; intro v' w3 hown' hgrow _ hat; obtain ⟨g', cap', rfl⟩ := ownsRow_succ hown'; obtain ⟨hS, hK, hlow, hv1⟩ := (unhide H2).app (L := w2.heap.size + 1) (y := y) (unhide HL) (unhide HD) (by have := unhide HSZ; omega) hown' hgrow hat; have hc1 := hv1.cell; have hf1 := hv1.frozen; have hc2 := cell_box hS.box; have hc3 := cell_box hS.mst; have HA := hide (And.intro hS (And.intro hK hlow)); clear hown' hgrow hat hS hK hlow hv1)
    · rename_i hq
      have hq := eq_of_beq hq
      obtain ⟨hS, hK, hlow⟩ := unhide HA
      refine ⟨⟨hlow _ (by omega) (by have := unhide HSZ; omega), hlow _ (by omega) (by have := unhide HSZ; omega)⟩, rfl, ?_, _, hS⟩
      rw [List.length_append, List.length_cons, List.length_nil]
      omega
    · rename_i hq
      have hq : ¬ (pre.length : Int) + 1 = most := by simpa using hq
      obtain ⟨hS, hK, hlow⟩ := unhide HA
      refine ⟨⟨hlow _ (by omega) (by have := unhide HSZ; omega), hlow _ (by omega) (by have := unhide HSZ; omega)⟩, ⟨?_, _, hS⟩, hK⟩
      rw [List.length_append, List.length_cons, List.length_nil]
      have := unhide HM
      omega
  case iter =>
    intro r0 rx hR hY
    have ba := below_alloc w2 (.deferred (some []))
    have bb := below_then ba (below_alloc (w2.alloc (.deferred (some []))) (.loop r0))
    have hsz := unhide HSZ
    obtain ⟨c1, c2, c3, c4⟩ := unhide HCC
    have hS0 := unhide HS0
    refine CallsIn.mono (Rf.calls_any (items1_leaf 7 (w2.heap.size + 1) x (w.heap.size + 1 + 1 + 1 + 1) (w.heap.size + 1 + 1 + 1) 0 (w.heap.size + 5) (w.heap.size + 5 + 1) (w.heap.size + 5 + 2) (w.heap.size + 5 + 3) hx (fun _ => none) fr to' its
      (fun pre W => (pre.length < most ∧ ∃ v, St w w2 w.heap.size (w.heap.size + 1 + 1) (w.heap.size + 1 + 1 + 1) (w.heap.size + 1 + 1 + 1 + 1) p most pre W v) ∧ Rf.Rdy (w2.heap.size + 1) w2.heap.size r0 W)
      (fun pre W => ∃ c, (c = .exit 0 ∧ pre.length = most ∧ ∃ v, St w w2 w.heap.size (w.heap.size + 1 + 1) (w.heap.size + 1 + 1 + 1) (w.heap.size + 1 + 1 + 1 + 1) p most pre W v) ∧ Rf.Rdy (w2.heap.size + 1) w2.heap.size (rx c) W)
      (Kr (w.heap.size + 1 + 1) (w2.heap.size + 1)) (fun g W => g ≠ w.heap.size + 1 + 1 ∧ g ≠ w2.heap.size + 1 ∧ own (w.heap.size + 1 + 1) W ≠ some g ∧ w.heap.size + 1 + 1 < W.heap.size)
      ((w2.alloc (.deferred (some []))).alloc (.loop r0)) ((unhide HH0).grow bb) ((unhide HW0).grow bb) rfl (unhide HFM) (by omega) (by omega) (unhide HGET) hlen hne ?j0 ?jb ?hof ?hob ?hko ?hyl
      (cell_later _ (cell_later _ c1)) (cell_later _ (cell_later _ c2)) (cell_later _ (cell_later _ c3)) (cell_later _ (cell_later _ c4)))) ?hfin
    case j0 =>
      intro W1 hm hw hh
      have hg := hS0.grow bb
      have hsz1 : w2.heap.size + 2 ≤ ((w2.alloc (.deferred (some []))).alloc (.loop r0)).heap.size := by rw [World.size_alloc, World.size_alloc]; omega
      have hk : ∀ g, g < w2.heap.size + 2 → g ≠ w.heap.size + 1 + 1 + 1 → W1.heap[g]? = ((w2.alloc (.deferred (some []))).alloc (.loop r0)).heap[g]? := fun g h1 h2 => hm.block g (by omega) (by simpa using h2)
      refine ⟨⟨hm1, _, (hk _ (by omega) (by omega)).trans hg.box, L6.OwnE.nil _ _ _ _, (hk _ (by omega) (by omega)).trans hg.mst, ?_, ?_, ⟨_, _, hw⟩, fun _ => rfl⟩, hR.same (hk _ (by omega) (by omega)) (hk _ (by omega) (by omega))⟩
      · have hb := hg.bel
        exact ⟨hm.os.trans hb.os, hm.tape.trans hb.tape, hm.output.trans hb.output, Nat.le_trans hb.size hm.size, fun g h1 => (hk g (by omega) (by omega)).trans (hb.block g h1)⟩
      · have := hm.size
        omega
    case jb =>
      rintro pre W1 W2 ⟨⟨h1, v, h2⟩, h3⟩ hb
      exact ⟨⟨h1, v, h2.grow hb⟩, h3.same (hb.block _ (Array.getElem?_eq_some_iff.1 h3.lp).1) (hb.block _ (Array.getElem?_eq_some_iff.1 h3.dfr).1)⟩
    case hof =>
      rintro W1 g o u ⟨⟨h1, v, h2⟩, h3⟩ hc
      refine ⟨fun e => ?_, fun e => ?_, ?_, (Array.getElem?_eq_some_iff.1 h2.box).1⟩
      · subst e
        simp [World.cell?, h2.box] at hc
      · subst e
        simp [World.cell?, h3.lp] at hc
      · rw [h2.own, h2.emp rfl]
        simp [Value.ownBlock]
    case hob =>
      rintro g W1 W2 ⟨h1, h2, h3, h4⟩ hb
      refine ⟨h1, h2, ?_, Nat.lt_of_lt_of_le h4 hb.size⟩
      unfold own at h3 ⊢
      have e : W2.cell? ⟨w.heap.size + 1 + 1, 0, none⟩ = W1.cell? ⟨w.heap.size + 1 + 1, 0, none⟩ := hb.cell h4
      rw [e]
      exact h3
    case hko =>
      rintro W1 W2 g hk ⟨h1, h2, h3, h4⟩ hg
      refine ⟨hk.keep g hg h1 h2 h3, h1, h2, ?_, Nat.lt_of_lt_of_le h4 hk.size⟩
      rcases hk.own with e | ⟨g', e, hg'⟩
      · rw [e]; exact h3
      · rw [e]; intro e'; cases e'; omega
    case hyl =>
      rintro pre y W1 ⟨hJ, hR1⟩ _
      refine (hY pre y W1 hJ hR1).mono ?_
      rintro e W2 (⟨h1, h2, h3, h4⟩ | ⟨h1, c, h2, h3⟩)
      · exact .inl ⟨h1, ⟨h2, h3⟩, h4⟩
      · exact .inr ⟨h1, c, h2, h3⟩
    case hfin =>
      rintro e W' ⟨h0, (⟨h1, h2⟩ | ⟨pre, h1, c, h2, h3⟩)⟩
      · exact ⟨h0, .inl ⟨_, rfl, h1, h2⟩⟩
      · exact ⟨h0, .inr ⟨pre, c, h1, h2, h3⟩⟩
  case done =>
    rintro xs W rfl ⟨h1, v, h2⟩ hD
    have hc := cell_box h2.box
    have hce := h2.err
    have HF := hide (h2.fin (o := .deferred none) hD (by have := unhide HSZ; omega) (by have := unhide HSZ; omega))
    have HT : Hid ((leafR its fr to').take most = leafR its fr to') := List.take_of_length_le (by omega)
    have HDD := hide hD
    clear h1 h2 hD
    gi_wp2
    refine ⟨by simp, .inl ⟨_, _, rfl, run_takeDeferred (unhide HDD), ?_⟩⟩
    exact ⟨_, results_tmp2 rfl _ _ _, v, rfl, by rw [unhide HT]; exact (unhide HF).1, (unhide HF).2⟩
  case stop =>
    rintro c pre W hp ⟨rfl, h1, v, h2⟩ hD
    have hc := cell_box h2.box
    have hce := h2.err
    have HF := hide (h2.fin (o := .deferred none) hD (by have := unhide HSZ; omega) (by have := unhide HSZ; omega))
    have HT : Hid ((leafR its fr to').take most = pre) := by
      show _ = _
      rw [← h1]
      exact (List.prefix_iff_eq_take.1 hp).symm
    have HDD := hide hD
    clear h1 h2 hD
    gi_wp2
    refine ⟨by simp, .inl ⟨_, _, rfl, run_takeDeferred (unhide HDD), ?_⟩⟩
    exact ⟨_, results_tmp2 rfl _ _ _, v, rfl, by rw [unhide HT]; exact (unhide HF).1, (unhide HF).2⟩
end Go.Proofs.YtdelobaiicoogaaGreatDoor

/- The way down to a key: of no tree, of a tree that is one leaf. -/
namespace Go.Proofs.YtdelobaiicoogaaGreatDoor
open Go.ChangeShapes Go.WideShapes Go.ChangeAt Go.RowKit
attribute [local go_sem] Oper.semAt_some
variable {w w' : World} {p d : Nat} {h : Hp} {c : Nat} {F : List Nat}

theorem results_tmp_cell_tmp {fn : Func} {p u v : Tmp} {ty : TypeId} (h : fn.results = #[.tmp u, .cell p ty, .tmp v]) (tmps : Array Value) (P : Program) (w : World) :
    (results fn tmps).run P w =
      ((asAddr (tmps.getD p undef)).run P w).andThen fun a w₁ => ((loadVar ty a).run P w₁).andThen fun x w₂ => .ok (.tuple #[tmps.getD u undef, x, tmps.getD v undef]) w₂ := by
  simp only [results, h]
  simp [Sem.run_bind, Result.andThen]
set_option maxHeartbeats 2000000 in
set_option maxRecDepth 20000 in
theorem wayTo_none (v : Value) (key : ByteArray) (w : World) : Calls Tryz.prog 42 #[v, .int .i64 0, .string key] w fun e w' =>
    e = .returned (.tuple #[.slice none 0 0, .agg #[.bool true, .slice none 0 0, .slice none 0 0], .int .i64 0]) ∧ Below w.heap.size w w' := by
  have hP := L6.Nblk.new w false none none 0 0 0 0
  have z0 := hP.cell0
  have z1 := hP.cell1
  have z2 := hP.cell2
  have f0 := hP.free 0
  have f1 := hP.free 1
  have f2 := hP.free 2
  have HP := hide hP
  have HB := hide (below_alloc w (.cells #[.bool false, .slice none 0 0, .slice none 0 0] 38))
  have HR := hide (Nat.le_refl w.heap.size)
  clear hP
  go_enter Tryz.func42, Tryz.ntmps42
  go_wp2
  refine bodyPost_ret (v := .tuple #[.slice none 0 0, .agg #[.bool true, .slice none 0 0, .slice none 0 0], .int .i64 0]) ?_ rfl ?_
  · rw [results_tmp_cell_tmp rfl]
    go_simp
  · exact ⟨rfl, below_alloc _ _⟩
set_option maxHeartbeats 4000000 in
set_option maxRecDepth 20000 in
theorem wayTo_leaf (x : Nat) (hx : x < 4096) (hx0 : x ≠ 0) (key : ByteArray) (its : List L6.It) (w : World) (H : IsHeap w p d h c F) (hget : getR h (x : Int) = (⟨true, its, []⟩, 0)) :
    Calls Tryz.prog 42 #[.pointer (some ⟨p, 0, none⟩), .int .i64 (x : Int), .string key] w fun e w' => ∃ (ai ak : Option Addr) (ci ck : Nat),
      e = .returned (.tuple #[.slice none 0 0, .agg #[.bool true, .slice ai its.length ci, .slice ak 0 ck], .int .i64 0]) ∧ L6.Has w' ⟨true, its, []⟩ ai ak ∧ its.length ≤ ci ∧ Below w.heap.size w w' := by
  have hP := L6.Nblk.new w false none none 0 0 0 0
  have hb0 := below_alloc w (.cells #[.bool false, .slice none 0 0, .slice none 0 0] 38)
  have HG := hide (hget_anyC (x : Int) (by unfold L5.I64; omega) _ (H.grow hb0))
  rw [hget] at HG
  have HP := hide hP
  have HB := hide hb0
  have hxn : ((x : Int) == 0) = false := beq_eq_false_iff_ne.2 (by omega)
  obtain ⟨P, hPE⟩ : ∃ y, y = w.heap.size := ⟨_, rfl⟩
  clear hP hb0 H hget
  go_enter Tryz.func42, Tryz.ntmps42
  go_wp2_with (refine wp_loop_once ?_)
  rw [← hPE] at HP ⊢
  have HPE := hide hPE
  clear hPE
  generalize w.alloc (.cells #[.bool false, .slice none 0 0, .slice none 0 0] 38) = w1 at *
  refine (unhide HG).mono ?_
  rintro e w2 ⟨ai, ak, ci, ck, rfl, hh2, hcp, hb2⟩
  have hN := L6.Nblk.new w2 true ai ak its.length ci 0 ck
  have hb3 := below_alloc w2 (.cells #[.bool true, .slice ai its.length ci, .slice ak 0 ck] 38)
  have hp3 := ((unhide HP).below hb2).below hb3
  have hlt := ((unhide HP).below hb2).lt
  have hne : w2.heap.size ≠ P := by omega
  have hne' : P ≠ w2.heap.size := by omega
  have HR : Hid (w.heap.size ≤ P) := Nat.le_of_eq (unhide HPE).symm
  have HH3 := hide (hh2.grow hb3)
  have HB3 := hide (below_then (below_then (unhide HB) hb2) hb3)
  have HCP := hide hcp.1
  have x0 := hN.cell0
  have x1 := hN.cell1
  have x2 := hN.cell2
  have z0 := hp3.cell0
  have z1 := hp3.cell1
  have z2 := hp3.cell2
  have f0 := hp3.free 0
  have f1 := hp3.free 1
  have f2 := hp3.free 2
  have HP3 := hide hp3
  clear hb2 hh2 hN hb3 hp3 hcp HG HB HP
  clear hlt
  go_wp2
  go_region
  go_wp2
  have hst := (unhide HP3).store true ai its.length ci ak 0 ck (unhide HH3)
  refine bodyPost_ret (v := .tuple #[.slice none 0 0, .agg #[.bool true, .slice ai its.length ci, .slice ak 0 ck], .int .i64 0]) ?_ rfl ?_
  · rw [results_tmp_cell_tmp rfl]
    go_simp
  · exact ⟨ai, ak, ci, ck, rfl, hst.2.grow (below_drew _), unhide HCP, (L6.below_store (L6.below_store (L6.below_store (unhide HB3) P 0 _ (unhide HR)) P 1 _ (unhide HR)) P 2 _ (unhide HR)).drew⟩
end Go.Proofs.YtdelobaiicoogaaGreatDoor

/- Which kid a key stands below; the same tree once more; the value of a key in no tree, in a leaf. -/
namespace Go.Proofs.YtdelobaiicoogaaGreatDoor
open Go.ChangeShapes Go.WideShapes Go.ChangeAt Go.RowKit
attribute [local go_sem] Oper.semAt_some
variable {w w' : World} {p d : Nat} {h : Hp} {c : Nat} {F : List Nat}

/-- which kid a key stands below, or would -/
def kidN (n : L6.Nd) (key : ByteArray) : Nat := let r := L6.findK (L6.keysN n) key; if r.2 = true then r.1 else r.1 - 1
end Go.Proofs.YtdelobaiicoogaaGreatDoor

/- What is read, once more: each slice has room for what it has, and lies in memory made since. -/
namespace Go.Proofs.YtdelobaiicoogaaGreatDoor.L6
open Go.ChangeShapes Go.WideShapes Go.ChangeAt Go.RowKit
/-- room for what it has, in memory made since -/
structure Roomy (B : Nat) (n : Nd) (ai ak : Option Addr) (ci ck : Nat) : Prop where
  i : n.its.length ≤ ci
  k : n.kds.length ≤ ck
  ni : ∀ a, ai = some a → B ≤ a.block
  nk : ∀ a, ak = some a → B ≤ a.block
theorem Roomy.mono {B B' : Nat} {n : Nd} {ai ak : Option Addr} {ci ck : Nat} (h : Roomy B n ai ak ci ck) (hB : B' ≤ B) : Roomy B' n ai ak ci ck := ⟨h.i, h.k, fun a e => Nat.le_trans hB (h.ni a e), fun a e => Nat.le_trans hB (h.nk a e)⟩
theorem Roomy.zero (B : Nat) : Roomy B nd0 none none 0 0 := ⟨Nat.le_refl 0, Nat.le_refl 0, fun _ e => (by cases e), fun _ e => (by cases e)⟩
theorem OwnE.new {β : Type} {sv : β → Value} {T : TypeId} {B : Nat} {w : World} {a : Option Addr} {n cap : Nat} {l : List (ByteArray × β)} (h : OwnE sv T B w (.slice a n cap) l) : ∀ x, a = some x → B ≤ x.block := by
  intro x hx
  rcases h.2 with ⟨e, hn⟩ | ⟨g, cap', cur, e, hg, _, hc, _⟩
  · injection e with e1 e2 e3
    rw [e1] at hx
    cases hx
  · injection e with e1 e2 e3
    rw [e1] at hx
    cases hx
    exact hg
end Go.Proofs.YtdelobaiicoogaaGreatDoor.L6

/- What is got of a heap, once more: each slice has room for what it has, and lies in memory made since. -/
namespace Go.Proofs.YtdelobaiicoogaaGreatDoor
open Go.ChangeShapes Go.WideShapes Go.ChangeAt Go.RowKit
variable {w w' : World} {p d : Nat} {h : Hp} {c : Nat} {F : List Nat} {a b kb : Nat} {fd : List Nat} {kf : Nat → Option Value}

end Go.Proofs.YtdelobaiicoogaaGreatDoor
