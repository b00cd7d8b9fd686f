/- Texts that the proof needs, one behind the other. -/
import Derived.Test.YtdelobaiicoogaaGreatDoorMbk
import Derived.LoopN
import Derived.Defers
/- endsUnlike, and the shape of a leaf's draft. -/
namespace Go.Proofs.YtdelobaiicoogaaGreatDoor
open Go.ChangeShapes Go.WideShapes Go.ChangeAt Go.RowKit
attribute [local go_sem] Oper.semAt_some

/-- shape under way: the draft's box, the answer's variable, the node -/
structure Sw (w wr : World) (a : Option Addr) (n c : Nat) (v : Value) (l : List L6.It) : Prop where
  bel : Below w.heap.size w wr
  box : wr.heap[w.heap.size]? = some (.cells #[.bool true, .slice a n c] 190 (0, 0))
  res : wr.heap[w.heap.size + 1]? = some (.cells #[.bool false, .slice none 0 0, .slice none 0 0] 38 (0, 0))
  nod : wr.heap[w.heap.size + 2]? = some (.cells #[.bool true, v, .slice none 0 0] 38 (0, 0))
  own : OwnI (w.heap.size + 3) wr v l
  siz : w.heap.size + 3 ≤ wr.heap.size
theorem Sw.new (w : World) (a : Option Addr) (n c : Nat) : Sw w (((w.alloc (.cells #[.bool true, .slice a n c] 190)).alloc (.cells #[.bool false, .slice none 0 0, .slice none 0 0] 38)).alloc (.cells #[.bool true, .slice none 0 0, .slice none 0 0] 38)) a n c (.slice none 0 0) [] := by
  have b1 := below_alloc w (.cells #[.bool true, .slice a n c] 190)
  have h1 := heap_alloc_new w (.cells #[.bool true, .slice a n c] 190)
  have z1 : (w.alloc (.cells #[.bool true, .slice a n c] 190)).heap.size = w.heap.size + 1 := World.size_alloc _ _
  generalize w.alloc (.cells #[.bool true, .slice a n c] 190) = w1 at *
  have b2 := below_alloc w1 (.cells #[.bool false, .slice none 0 0, .slice none 0 0] 38)
  have h2 := heap_alloc_new w1 (.cells #[.bool false, .slice none 0 0, .slice none 0 0] 38)
  have z2 : (w1.alloc (.cells #[.bool false, .slice none 0 0, .slice none 0 0] 38)).heap.size = w1.heap.size + 1 := World.size_alloc _ _
  generalize w1.alloc (.cells #[.bool false, .slice none 0 0, .slice none 0 0] 38) = w2 at *
  have b3 := below_alloc w2 (.cells #[.bool true, .slice none 0 0, .slice none 0 0] 38)
  have h3 := heap_alloc_new w2 (.cells #[.bool true, .slice none 0 0, .slice none 0 0] 38)
  have z3 : (w2.alloc (.cells #[.bool true, .slice none 0 0, .slice none 0 0] 38)).heap.size = w2.heap.size + 1 := World.size_alloc _ _
  rw [z1] at h2
  rw [z2, z1] at h3
  exact ⟨below_then (below_then b1 b2) b3, (b3.block _ (by omega)).trans ((b2.block _ (by omega)).trans h1), (b3.block _ (by omega)).trans h2, h3, L6.OwnE.nil _ _ _ _, by omega⟩
theorem Sw.grow {w wr wq : World} {a : Option Addr} {n c : Nat} {v : Value} {l : List L6.It} (h : Sw w wr a n c v l) (hb : Below wr.heap.size wr wq) : Sw w wq a n c v l :=
  ⟨below_then h.bel hb, (hb.block _ (by have := h.siz; omega)).trans h.box, (hb.block _ (by have := h.siz; omega)).trans h.res, (hb.block _ (by have := h.siz; omega)).trans h.nod, h.own.below hb, Nat.le_trans h.siz hb.size⟩
theorem Sw.facts {w wr : World} {a : Option Addr} {n c : Nat} {v : Value} {l : List L6.It} (h : Sw w wr a n c v l) :
    wr.cell? ⟨w.heap.size, 0, none⟩ = some (.bool true) ∧ wr.cell? ⟨w.heap.size + 2, 0, none⟩ = some (.bool true) ∧ wr.cell? ⟨w.heap.size + 2, 1, none⟩ = some v ∧ wr.cell? ⟨w.heap.size + 2, 2, none⟩ = some (.slice none 0 0) ∧ (∀ i, wr.frozen? ⟨w.heap.size + 2, i, none⟩ = false) ∧
    wr.cell? ⟨w.heap.size + 1, 0, none⟩ = some (.bool false) ∧ wr.cell? ⟨w.heap.size + 1, 1, none⟩ = some (.slice none 0 0) ∧ wr.cell? ⟨w.heap.size + 1, 2, none⟩ = some (.slice none 0 0) ∧ ∀ i, wr.frozen? ⟨w.heap.size + 1, i, none⟩ = false := by
  have h0 := h.box
  have h1 := h.res
  have h2 := h.nod
  exact ⟨by simp [World.cell?, h0], by simp [World.cell?, h2], by simp [World.cell?, h2], by simp [World.cell?, h2], fun i => by simp [World.frozen?, h2], by simp [World.cell?, h1], by simp [World.cell?, h1], by simp [World.cell?, h1], fun i => by simp [World.frozen?, h1]⟩
/-- one item more -/
theorem Sw.app {w W w1 : World} {a : Option Addr} {n c : Nat} {v v' : Value} {l : List L6.It} {x : L6.It} {tmp : Obj} (h : Sw w W a n c v l)
    (hown' : w1.ownsRow (w.heap.size + 3) 58 2 v' (l.length + 1) (L6.pairs itV l ++ [.string x.1, .string x.2])) (hgrow : (W.alloc tmp).grownBy w1 v.ownBlock) : Sw w (w1.setCell ⟨w.heap.size + 2, 1, none⟩ v') a n c v' (l ++ [x]) ∧ w1.cell? ⟨w.heap.size + 2, 1, none⟩ = some v ∧ ∀ i, w1.frozen? ⟨w.heap.size + 2, i, none⟩ = false := by
  have hlt := h.siz
  have hk : ∀ g, g < w.heap.size + 3 → w1.heap[g]? = W.heap[g]? := fun g hg =>
    (hgrow.block g (by rw [World.size_alloc]; omega) (fun e => by have := (World.ownsRow.lt h.own g e.symm).1; omega)).trans (Below.heap_alloc _ _ _ (by omega))
  have hsz : W.heap.size ≤ w1.heap.size := by have := hgrow.size; rw [World.size_alloc] at this; omega
  have hd := (hk _ (by omega)).trans h.nod
  have hs : (w1.setCell ⟨w.heap.size + 2, 1, none⟩ v').heap.size = w1.heap.size := by simp [World.setCell]
  have ho : ∀ g, g ≠ w.heap.size + 2 → (w1.setCell ⟨w.heap.size + 2, 1, none⟩ v').heap[g]? = w1.heap[g]? := fun g hg => by
    simp [World.setCell, Array.getElem?_modify, Ne.symm hg]
  refine ⟨⟨L6.below_store ⟨hgrow.os.trans h.bel.os, hgrow.tape.trans h.bel.tape, hgrow.output.trans h.bel.output, by have := h.bel.size; omega, fun k hk' => (hk k (by omega)).trans (h.bel.block k hk')⟩ (w.heap.size + 2) 1 v' (by omega),
    (ho _ (by omega)).trans ((hk _ (by omega)).trans h.box), (ho _ (by omega)).trans ((hk _ (by omega)).trans h.res), ?_, ?_, by rw [hs]; omega⟩, by simp [World.cell?, hd], fun i => by simp [World.frozen?, hd]⟩
  · simp [World.setCell, Array.getElem?_modify, hd]
  · exact L6.OwnE.snoc (x := x) (ownsRow_setCell_other hown' (fun e => by have := (World.ownsRow.lt hown' _ e).1; simp only at this; omega) v')
set_option maxHeartbeats 4000000 in
set_option maxRecDepth 20000 in
theorem shape_leaf (l : List L6.It) (a : Option Addr) (cap : Nat) (w : World) (hr : RowD w a l) (hl : l.length ≤ 1100) :
    Calls Tryz.prog 120 #[.agg #[.bool true, .slice a l.length cap]] w fun e w' => ∃ (ai : Option Addr) (ci : Nat), e = .returned (.agg #[.bool true, .slice ai l.length ci, .slice none 0 0]) ∧ OwnI w.heap.size w' (.slice ai l.length ci) l ∧ Below w.heap.size w w' := by
  have HR := hide hr
  have HL := hide hl
  clear hr hl
  go_enter Tryz.func120, Tryz.ntmps120
  go_wp2
  have HD0 := hide (Sw.new w a l.length cap)
  generalize (((w.alloc (.cells #[.bool true, .slice a l.length cap] 190)).alloc (.cells #[.bool false, .slice none 0 0, .slice none 0 0] 38)).alloc (.cells #[.bool true, .slice none 0 0, .slice none 0 0] 38)) = w1 at *
  go_loopw [12] (fun t wr => ∃ (k : Nat) (v : Value), k ≤ l.length ∧ t = .int .i64 (k : Int) ∧ Sw w wr a l.length cap v (l.take k)) (fun t _ => l.length - (intOf t).toNat)
  case atStart => exact ⟨0, _, Nat.zero_le _, rfl, unhide HD0⟩
  case round =>
    obtain ⟨k, v, hk, rfl, hD⟩ := hrel
    have HD := hide hD
    by_cases hlt : k < l.length
    · obtain ⟨⟨key, val⟩, hx⟩ := L6.get_some hlt
      obtain ⟨b, off, rfl, c0, c1, c2, c3, c4, c5⟩ := ((unhide HR).grow hD.bel).at hx
      simp only at c0 c1
      have hlen : (l.take k).length = k := by rw [List.length_take]; omega
      have hD2 := hD.grow (below_alloc wr (.cells #[.string key, .string val, .int .i64 0, .bool false, .slice none 0 0, .int .i64 0] 192))
      obtain ⟨g0, n0, n1, n2, nf, _, _, _, _⟩ := hD2.facts
      have HD2 := hide hD2
      have HX : Hid (l.take (k + 1) = l.take k ++ [(key, val)]) := by
        show _ = _
        rw [take_next hlt, (List.getElem?_eq_some_iff.1 hx).2]
      have HOw : Hid (((wr.alloc (.cells #[.string key, .string val, .int .i64 0, .bool false, .slice none 0 0, .int .i64 0] 192)).ownsRow (w.heap.size + 3) 58 2 v k (L6.pairs itV (l.take k)))) := by
        have h1 : OwnI _ _ _ _ := hD2.own
        unfold OwnI L6.OwnE at h1
        rw [hlen] at h1
        exact h1
      have HLN := hide hlen
      have hL1 := unhide HL
      clear hx hD hD2 hlen
      obtain ⟨j0, hi, hz0, hz1, hz2⟩ := info_parts L6.info58
      go_wp2_with (first
        | (at_builtin; refine wpList_append_own_at _ rfl _ _ 35 rfl (w.heap.size + 3) 58 j0 (.agg #[.string ByteArray.empty, .string ByteArray.empty]) 2 32 Tryz.underlying35 hi hz0 hz1 hz2 rfl (by decide) v k (L6.pairs itV (l.take k)) rfl (World.ownsRow.alloc (unhide HOw) _) ⟨wr.heap.size + 1, 0, none⟩ 1 1 [.string key, .string val] rfl rfl (fun j u hj => by rw [Go.WideShapes.add_plain, Nat.zero_add]; simpa using hj) (by simp [Value.oneCell']) (by unfold maxLen; omega) (by omega) (by rw [World.size_alloc, World.size_alloc]; have := (unhide HD2).siz; rw [World.size_alloc] at this; omega) ?_; intro v' w5 hown' hgrow _ _; obtain ⟨g', cap', rfl⟩ := ownsRow_succ hown'; obtain ⟨ha, hc, hf⟩ := (unhide HD2).app (x := (key, val)) (by rw [unhide HLN]; exact hown') hgrow; have HA := hide ha; clear hown' hgrow ha))
      refine ⟨⟨k + 1, _, hlt, by go_num, by rw [unhide HX]; exact unhide HA⟩, ?_⟩
      show l.length - (k + 1) < l.length - k
      omega
    · have hke : k = l.length := by omega
      subst hke
      rw [List.take_length] at hD
      obtain ⟨va, vc, rfl⟩ := L6.ownsRow_form hD.own
      obtain ⟨g0, n0, n1, n2, nf, r0, r1, r2, rf⟩ := hD.facts
      have HD3 := hide hD
      clear hD HD
      go_wp2
      refine bodyPost_ret (v := .agg #[.bool true, .slice va l.length vc, .slice none 0 0]) ?_ rfl ?_
      · rw [results_cell rfl]
        go_simp <;> rfl
      · have hh := unhide HD3
        refine ⟨va, vc, rfl, ?_, L6.below_store (L6.below_store (L6.below_store hh.bel (w.heap.size + 1) 0 _ (by omega)) (w.heap.size + 1) 1 _ (by omega)) (w.heap.size + 1) 2 _ (by omega)⟩
        have q : ∀ {wq : World} {j : Nat} {u : Value}, OwnI (w.heap.size + 3) wq (.slice va l.length vc) l → OwnI (w.heap.size + 3) (wq.setCell ⟨w.heap.size + 1, j, none⟩ u) (.slice va l.length vc) l := fun h =>
          ownsRow_setCell_other h (fun e => by have := (World.ownsRow.lt h _ e).1; simp only at this; omega) _
        exact (q (q (q hh.own))).base (by omega)
end Go.Proofs.YtdelobaiicoogaaGreatDoor

/- endsUnlike. -/
namespace Go.Proofs.YtdelobaiicoogaaGreatDoor
open Go.ChangeShapes Go.WideShapes Go.ChangeAt Go.RowKit
attribute [local go_sem] Oper.semAt_some

set_option maxHeartbeats 4000000 in
set_option maxRecDepth 20000 in
theorem ends_zero (n1 n2 : Nat) (a1 a2 : Option Addr) (c1 c2 : Nat) (w : World) (h : n1 = 0 ∨ (n1 ≠ 0 ∧ n2 = 0)) :
    Calls Tryz.prog 188 #[.agg #[.bool true, .slice a1 n1 c1], .agg #[.bool true, .slice a2 n2 c2]] w fun e w' => ∃ b, e = .returned (.bool b) ∧ Below w.heap.size w w' := by
  have HB := hide (below_then (below_alloc w (.cells #[.bool true, .slice a1 n1 c1] 190)) (below_alloc (w.alloc (.cells #[.bool true, .slice a1 n1 c1] 190)) (.cells #[.bool true, .slice a2 n2 c2] 190)))
  rcases h with rfl | ⟨h1, rfl⟩
  · go_enter Tryz.func188, Tryz.ntmps188
    go_wp2_with fail
    go_quiet (fail)
    go_wp2_with fail
    go_quiet (fail)
    go_wp2
    go_ret
    exact ⟨_, rfl, below_drewN (below_drewN (unhide HB) _) _⟩
  · have e1 : ((n1 : Int) == 0) = false := beq_eq_false_iff_ne.2 (by omega)
    clear h1
    go_enter Tryz.func188, Tryz.ntmps188
    go_wp2_with fail
    go_quiet (fail)
    go_wp2_with fail
    go_quiet (fail)
    go_wp2
    go_ret
    exact ⟨_, rfl, below_drewN (below_drewN (unhide HB) _) _⟩
set_option maxHeartbeats 4000000 in
set_option maxRecDepth 20000 in
theorem ends_some (k1 k2 b1 o1 b2 o2 c1 c2 : Nat) (x y : ByteArray) (w : World) (h1 : w.cell? ⟨b1, o1 + k1 * 6, none⟩ = some (.string x)) (h2 : w.cell? ⟨b2, o2 + k2 * 6, none⟩ = some (.string y)) (l1 : k1 < 1100) (l2 : k2 < 1100) :
    Calls Tryz.prog 188 #[.agg #[.bool true, .slice (some ⟨b1, o1, none⟩) (k1 + 1) c1], .agg #[.bool true, .slice (some ⟨b2, o2, none⟩) (k2 + 1) c2]] w fun e w' => ∃ b, e = .returned (.bool b) ∧ Below w.heap.size w w' := by
  have hb := below_then (below_alloc w (.cells #[.bool true, .slice (some ⟨b1, o1, none⟩) (k1 + 1) c1] 190)) (below_alloc (w.alloc (.cells #[.bool true, .slice (some ⟨b1, o1, none⟩) (k1 + 1) c1] 190)) (.cells #[.bool true, .slice (some ⟨b2, o2, none⟩) (k2 + 1) c2] 190))
  have x1 := (hb.cell (World.block_lt_of_cell? w _ h1)).trans h1
  have x2 := (hb.cell (World.block_lt_of_cell? w _ h2)).trans h2
  have hsz : (w.alloc (.cells #[.bool true, .slice (some ⟨b1, o1, none⟩) (k1 + 1) c1] 190)).heap.size = w.heap.size + 1 := World.size_alloc _ _
  have n1 := ((below_alloc (w.alloc (.cells #[.bool true, .slice (some ⟨b1, o1, none⟩) (k1 + 1) c1] 190)) (.cells #[.bool true, .slice (some ⟨b2, o2, none⟩) (k2 + 1) c2] 190)).block w.heap.size (by omega)).trans (heap_alloc_new w (.cells #[.bool true, .slice (some ⟨b1, o1, none⟩) (k1 + 1) c1] 190))
  have n2 := heap_alloc_new (w.alloc (.cells #[.bool true, .slice (some ⟨b1, o1, none⟩) (k1 + 1) c1] 190)) (.cells #[.bool true, .slice (some ⟨b2, o2, none⟩) (k2 + 1) c2] 190)
  rw [hsz] at n2
  have y1 := (blk_facts n1).1 1 _ rfl
  have y2 := (blk_facts n2).1 1 _ rfl
  have HB := hide hb
  have e1 : (((k1 : Int) + 1) == 0) = false := beq_eq_false_iff_ne.2 (by omega)
  have e2 : (((k2 : Int) + 1) == 0) = false := beq_eq_false_iff_ne.2 (by omega)
  have v1 : IntKind.i64.wrap (k1 : Int) = (k1 : Int) := by rw [IntKind.wrap_i64]; omega
  have v2 : IntKind.i64.wrap (k2 : Int) = (k2 : Int) := by rw [IntKind.wrap_i64]; omega
  clear hb hsz n1 n2 h1 h2
  go_enter Tryz.func188, Tryz.ntmps188
  go_wp2_with fail
  generalize ((w.alloc (.cells #[.bool true, .slice (some ⟨b1, o1, none⟩) (k1 + 1) c1] 190)).alloc (.cells #[.bool true, .slice (some ⟨b2, o2, none⟩) (k2 + 1) c2] 190)) = w1 at *
  go_quiet (fail)
  go_wp2_with fail
  go_quiet (fail)
  go_wp2
  go_ret
  exact ⟨_, rfl, below_drewN (below_drewN (unhide HB) _) _⟩
theorem ends_any (l1 l2 : List L6.It) (a1 a2 : Option Addr) (c1 c2 : Nat) (w : World) (h1 : RowD w a1 l1) (h2 : RowD w a2 l2) (hl1 : l1.length ≤ 1100) (hl2 : l2.length ≤ 1100) :
    Calls Tryz.prog 188 #[.agg #[.bool true, .slice a1 l1.length c1], .agg #[.bool true, .slice a2 l2.length c2]] w fun e w' => ∃ b, e = .returned (.bool b) ∧ Below w.heap.size w w' := by
  by_cases z1 : l1.length = 0
  · rw [z1]
    exact ends_zero _ _ _ _ _ _ w (.inl rfl)
  · by_cases z2 : l2.length = 0
    · rw [z2]
      exact ends_zero _ _ _ _ _ _ w (.inr ⟨z1, rfl⟩)
    · obtain ⟨k1, e1⟩ : ∃ k, l1.length = k + 1 := ⟨l1.length - 1, by omega⟩
      obtain ⟨k2, e2⟩ : ∃ k, l2.length = k + 1 := ⟨l2.length - 1, by omega⟩
      obtain ⟨x, hx⟩ := L6.get_some (show k1 < l1.length by omega)
      obtain ⟨y, hy⟩ := L6.get_some (show k2 < l2.length by omega)
      obtain ⟨b1, o1, rfl, p1, _⟩ := h1.at hx
      obtain ⟨b2, o2, rfl, p2, _⟩ := h2.at hy
      rw [e1, e2]
      exact ends_some k1 k2 b1 o1 b2 o2 c1 c2 _ _ w p1 p2 (by omega) (by omega)
end Go.Proofs.YtdelobaiicoogaaGreatDoor

/- topped: a leaf's plan. -/
namespace Go.Proofs.YtdelobaiicoogaaGreatDoor
open Go.ChangeShapes Go.WideShapes Go.ChangeAt Go.RowKit
attribute [local go_sem] Oper.semAt_some

/-- an entry that is a planned leaf -/
def planE (key : ByteArray) (a : Option Addr) (n cap : Nat) : Obj := .cells #[.string key, .string ⟨#[]⟩, .int .i64 0, .bool true, .slice a n cap, .int .i64 1] 192 (0, 0)
set_option maxHeartbeats 4000000 in
set_option maxRecDepth 20000 in
theorem topped_any (M : Nat) (l : List L6.It) (a : Option Addr) (cap : Nat) (f : Bool) (w : World) (h5 : w.cell? ⟨M, 5, none⟩ = some (.slice none 0 0)) (hr : RowD w a l) (ht : Tame l) (hs : lsz l ≤ 1007) (hne : l ≠ []) :
    Calls Tryz.prog 191 #[.pointer (some ⟨M, 0, none⟩), .agg #[.bool true, .slice a l.length cap], .bool f] w fun e w' => ∃ g, e = .returned (.agg #[.slice (some ⟨g, 0, none⟩) 1 1, .int .i64 0, .int .i64 1]) ∧ w.heap.size ≤ g ∧ w'.heap[g]? = some (planE ⟨#[]⟩ a l.length cap) ∧ Below w.heap.size w w' := by
  have b1 := below_alloc w (.cells #[.bool true, .slice a l.length cap] 190)
  have b2 := below_alloc (w.alloc (.cells #[.bool true, .slice a l.length cap] 190)) (.cells #[.slice none 0 0, .int .i64 0, .int .i64 0] 187)
  have hsz : (w.alloc (.cells #[.bool true, .slice a l.length cap] 190)).heap.size = w.heap.size + 1 := World.size_alloc _ _
  have hx := (b2.block w.heap.size (by omega)).trans (heap_alloc_new w (.cells #[.bool true, .slice a l.length cap] 190))
  have hn2 := heap_alloc_new (w.alloc (.cells #[.bool true, .slice a l.length cap] 190)) (.cells #[.slice none 0 0, .int .i64 0, .int .i64 0] 187)
  rw [hsz] at hn2
  have hb := below_then b1 b2
  have h5' := (hb.cell (World.block_lt_of_cell? w _ h5)).trans h5
  have HZ : Hid (w.heap.size + 2 = ((w.alloc (.cells #[.bool true, .slice a l.length cap] 190)).alloc (.cells #[.slice none 0 0, .int .i64 0, .int .i64 0] 187)).heap.size) := by show _ = _; rw [World.size_alloc, hsz]
  have HR := hide (hr.grow hb)
  have HB := hide hb
  have H5 := hide h5'
  have HX := hide hx
  have HN := hide hn2
  have HT := hide ht
  have HS := hide hs
  have hl : ((l.length : Int) == 0) = false := beq_eq_false_iff_ne.2 (by have := List.length_pos_iff.2 hne; omega)
  clear b1 b2 hsz hx hn2 hb h5' h5 hr ht hs hne
  go_enter Tryz.func191, Tryz.ntmps191
  go_wp2_with fail
  generalize ((w.alloc (.cells #[.bool true, .slice a l.length cap] 190)).alloc (.cells #[.slice none 0 0, .int .i64 0, .int .i64 0] 187)) = w1 at *
  obtain ⟨hc, _⟩ := blk_facts (unhide HX)
  have x0 := hc 0 _ rfl
  have x1 := hc 1 _ rfl
  clear hc
  go_wp2_with fail
  refine (isLonely_any _ w1).mono ?_
  rintro e w2 ⟨rfl, hb⟩
  have y0 := (hb.cell (World.block_lt_of_cell? w1 _ x0)).trans x0
  have y1 := (hb.cell (World.block_lt_of_cell? w1 _ x1)).trans x1
  have HR2 := hide ((unhide HR).grow hb)
  have HB2 := hide (below_then (unhide HB) hb)
  have H52 := hide ((hb.cell (World.block_lt_of_cell? w1 _ (unhide H5))).trans (unhide H5))
  have HN2 := hide ((hb.block (w.heap.size + 1) (by have := unhide HZ; omega)).trans (unhide HN))
  have HZ2 : Hid (w.heap.size + 2 ≤ w2.heap.size) := by show _ ≤ _; have := unhide HZ; have := hb.size; omega
  clear hb x0 x1 HR HB H5 HX HN HZ
  go_wp2_with fail
  refine (parts_any ⟨#[]⟩ l a cap f w2 (unhide HR2) (unhide HT) (unhide HS)).mono ?_
  rintro e w3 ⟨g, rfl, hg, hgb, hb⟩
  have HG := hide hg
  have HGB := hide hgb
  have HB3 := hide (below_then (unhide HB2) hb)
  have H53 := hide ((hb.cell (World.block_lt_of_cell? w2 _ (unhide H52))).trans (unhide H52))
  have HN3 := hide ((hb.block (w.heap.size + 1) (by have := unhide HZ2; omega)).trans (unhide HN2))
  have HZ3 : Hid (w.heap.size + 2 ≤ w3.heap.size) := by show _ ≤ _; have := unhide HZ2; have := hb.size; omega
  clear hb hg hgb y0 y1 HR2 HB2 H52 HN2
  go_wp2_with fail
  refine (levels_any M w3 (unhide H53)).mono ?_
  rintro e w3 ⟨rfl, rfl⟩
  go_wp2_with fail
  refine (crowned_any g 1 w3).mono ?_
  rintro e w4 ⟨rfl, hb⟩
  have hn := (hb.block (w.heap.size + 1) (by have := unhide HZ3; omega)).trans (unhide HN3)
  have HGB4 := hide ((hb.block g (Array.getElem?_eq_some_iff.1 (unhide HGB)).1).trans (unhide HGB))
  have HB4 := hide (below_then (unhide HB3) hb)
  obtain ⟨hc, hf⟩ := blk_facts hn
  have z0 := hc 0 _ rfl
  have z1 := hc 1 _ rfl
  have z2 := hc 2 _ rfl
  clear hc hb hn
  go_wp2
  refine bodyPost_ret (v := .agg #[.slice (some ⟨g, 0, none⟩) 1 1, .int .i64 0, .int .i64 1]) ?_ rfl ?_
  · rw [results_cell rfl]
    go_simp <;> rfl
  · refine ⟨g, rfl, by have := unhide HG; have := unhide HZ2; omega, ?_, L6.below_store (L6.below_store (L6.below_store (unhide HB4) (w.heap.size + 1) 0 _ (by omega)) (w.heap.size + 1) 1 _ (by omega)) (w.heap.size + 1) 2 _ (by omega)⟩
    have hgn : w.heap.size + 1 ≠ g := by have := unhide HG; have := unhide HZ2; omega
    have h := unhide HGB4
    simp [World.setCell, Array.getElem?_modify, hgn, h, planE]
end Go.Proofs.YtdelobaiicoogaaGreatDoor

/- pressOf; the plan of a maker without a way, where usual's plan is known. -/
namespace Go.Proofs.YtdelobaiicoogaaGreatDoor
open Go.ChangeShapes Go.WideShapes Go.ChangeAt Go.RowKit
attribute [local go_sem] Oper.semAt_some

set_option maxHeartbeats 1000000 in
theorem pressOf_any (p : Nat) (w : World) : Calls Tryz.prog 81 #[.pointer (some ⟨p, 0, none⟩)] w fun e w' => ∃ m1 m2, e = .returned (.agg #[.pointer (some ⟨p, 0, none⟩), .map (some m1), .int .i64 0, .map (some m2)]) ∧ w.heap.size ≤ m1 ∧ w.heap.size ≤ m2 ∧ Below w.heap.size w w' := by
  have hmm := @run_makeMap Tryz.prog
  go_enter Tryz.func81, Tryz.ntmps81
  go_wp2
  refine bodyPost_ret (v := .agg #[.pointer (some ⟨p, 0, none⟩), .map (some (w.heap.size + 1)), .int .i64 0, .map (some (w.heap.size + 1 + 1))]) ?_ rfl ?_
  · rw [results_cell rfl]
    go_simp <;> rfl
  · exact ⟨_, _, rfl, by omega, by omega, below_then (below_then (below_alloc _ _) (below_alloc _ _)) (below_alloc _ _)⟩

/-- a plan with one root -/
def planV (g : Nat) : Value := .agg #[.slice (some ⟨g, 0, none⟩) 1 1, .int .i64 0, .int .i64 1]
/-- what a plan is made with: it has one new entry -/
def PlanSaid (w : World) (K : Nat → World → Prop) (e : Ending) (w' : World) : Prop := ∃ g, e = .returned (planV g) ∧ w.heap.size ≤ g ∧ K g w' ∧ Below w.heap.size w w'
set_option maxHeartbeats 2000000 in
theorem simple_any (M : Nat) (K : Nat → World → Prop) (w : World) (h5 : w.cell? ⟨M, 5, none⟩ = some (.slice none 0 0))
    (hU : ∀ W, Below w.heap.size w W → w.heap.size < W.heap.size → Calls Tryz.prog 149 #[.pointer (some ⟨M, 0, none⟩)] W fun e w' => PlanSaid W K e w') (hS : ∀ g W j v, w.heap.size < g → K g W → K g (W.setCell ⟨w.heap.size, j, none⟩ v)) :
    Calls Tryz.prog 114 #[.pointer (some ⟨M, 0, none⟩)] w fun e w' => PlanSaid w K e w' := by
  have b1 := below_alloc w (.cells #[.slice none 0 0, .int .i64 0, .int .i64 0] 187)
  have hn := heap_alloc_new w (.cells #[.slice none 0 0, .int .i64 0, .int .i64 0] 187)
  have hsz : (w.alloc (.cells #[.slice none 0 0, .int .i64 0, .int .i64 0] 187)).heap.size = w.heap.size + 1 := World.size_alloc _ _
  have HT := hide (isTall_any M _ ((b1.cell (World.block_lt_of_cell? w _ h5)).trans h5))
  have HU := hide (hU _ b1 (by rw [hsz]; omega))
  have HB := hide b1
  have HN := hide hn
  have HZ := hide hsz
  clear b1 hn hsz h5 hU
  go_enter Tryz.func114, Tryz.ntmps114
  go_wp2_with fail
  generalize w.alloc (.cells #[.slice none 0 0, .int .i64 0, .int .i64 0] 187) = w1 at *
  refine (unhide HT).mono ?_
  rintro e w1 ⟨rfl, rfl⟩
  go_wp2_with fail
  refine (unhide HU).mono ?_
  rintro e w2 ⟨g, rfl, hg, hk, hb⟩
  unfold planV
  have hn := (hb.block w.heap.size (by have := unhide HZ; omega)).trans (unhide HN)
  obtain ⟨hc, hf⟩ := blk_facts hn
  have z0 := hc 0 _ rfl
  have z1 := hc 1 _ rfl
  have z2 := hc 2 _ rfl
  have HB2 := hide (below_then (unhide HB) hb)
  have HG := hide hg
  have HK := hide hk
  have HSS := hide hS
  clear hc hn hb hg hk hS
  go_wp2
  refine bodyPost_ret (v := planV g) ?_ rfl ?_
  · rw [results_cell rfl]
    unfold planV
    go_simp <;> rfl
  · have hgl : w.heap.size < g := by have := unhide HG; have := unhide HZ; omega
    exact ⟨g, rfl, Nat.le_of_lt hgl, unhide HSS _ _ _ _ hgl (unhide HSS _ _ _ _ hgl (unhide HSS _ _ _ _ hgl (unhide HK))), L6.below_store (L6.below_store (L6.below_store (unhide HB2) w.heap.size 0 _ (Nat.le_refl _)) w.heap.size 1 _ (Nat.le_refl _)) w.heap.size 2 _ (Nat.le_refl _)⟩

set_option maxHeartbeats 4000000 in
set_option maxRecDepth 20000 in
theorem best_any (M : Nat) (K : Nat → World → Prop) (hK : ∀ g W W', K g W → Below W.heap.size W W' → K g W') (w : World) (h5 : w.cell? ⟨M, 5, none⟩ = some (.slice none 0 0))
    (hU : ∀ W, Below w.heap.size w W → w.heap.size < W.heap.size → Calls Tryz.prog 114 #[.pointer (some ⟨M, 0, none⟩)] W fun e w' => PlanSaid W K e w') (hS : ∀ g W j v, w.heap.size < g → K g W → K g (W.setCell ⟨w.heap.size, j, none⟩ v)) :
    Calls Tryz.prog 82 #[.pointer (some ⟨M, 0, none⟩)] w fun e w' => PlanSaid w K e w' := by
  have b1 := below_alloc w (.cells #[.slice none 0 0, .int .i64 0, .int .i64 0] 187)
  have hn := heap_alloc_new w (.cells #[.slice none 0 0, .int .i64 0, .int .i64 0] 187)
  have hsz : (w.alloc (.cells #[.slice none 0 0, .int .i64 0, .int .i64 0] 187)).heap.size = w.heap.size + 1 := World.size_alloc _ _
  have H5 := hide ((b1.cell (World.block_lt_of_cell? w _ h5)).trans h5)
  have HU := hide (hU _ b1 (by rw [hsz]; omega))
  have HB := hide b1
  have HN := hide hn
  have HZ := hide hsz
  have HSS := hide hS
  have HKK := hide hK
  clear b1 hn hsz h5 hU hS hK
  go_enter Tryz.func82, Tryz.ntmps82
  go_wp2_with fail
  generalize w.alloc (.cells #[.slice none 0 0, .int .i64 0, .int .i64 0] 187) = w1 at *
  refine (unhide HU).mono ?_
  rintro e w2 ⟨g, rfl, hg, hk, hb⟩
  unfold planV
  have hb3 := below_alloc w2 (.cells #[.slice (some ⟨g, 0, none⟩) 1 1, .int .i64 0, .int .i64 1] 187)
  have hn := (hb3.block w.heap.size (by have := unhide HZ; have := hb.size; omega)).trans ((hb.block w.heap.size (by have := unhide HZ; omega)).trans (unhide HN))
  obtain ⟨hc, hf⟩ := blk_facts hn
  have z0 := hc 0 _ rfl
  have z1 := hc 1 _ rfl
  have z2 := hc 2 _ rfl
  have HX := hide (heap_alloc_new w2 (.cells #[.slice (some ⟨g, 0, none⟩) 1 1, .int .i64 0, .int .i64 1] 187))
  have HBS := hide (isBushy_any M (w2.alloc (.cells #[.slice (some ⟨g, 0, none⟩) 1 1, .int .i64 0, .int .i64 1] 187)).drew ((hb3.cell (World.block_lt_of_cell? w2 _ ((hb.cell (World.block_lt_of_cell? w1 _ (unhide H5))).trans (unhide H5)))).trans ((hb.cell (World.block_lt_of_cell? w1 _ (unhide H5))).trans (unhide H5))))
  have HB2 := hide (below_then (below_then (unhide HB) hb) hb3)
  have HG := hide hg
  have HK := hide (unhide HKK _ _ _ hk hb3)
  clear hc hn hb hg hk hb3 HN HU
  go_wp2_with fail
  obtain ⟨b, hbe⟩ : ∃ b, b = w2.heap.size := ⟨_, rfl⟩
  rw [← hbe] at HX ⊢
  clear hbe
  generalize w2.alloc (.cells #[.slice (some ⟨g, 0, none⟩) 1 1, .int .i64 0, .int .i64 1] 187) = w3 at *
  obtain ⟨hc, _⟩ := blk_facts (unhide HX)
  have x0 := hc 0 _ rfl
  have x1 := hc 1 _ rfl
  have x2 := hc 2 _ rfl
  clear hc
  refine wp_region_noPanic ?_
  refine wp_region_held_drew (S := fun w' => w' = w3.drew ∧ w'.cell? ⟨b, 0, none⟩ = some (.slice (some ⟨g, 0, none⟩) 1 1) ∧ w'.cell? ⟨b, 1, none⟩ = some (.int .i64 0) ∧ w'.cell? ⟨b, 2, none⟩ = some (.int .i64 1)) (by kernel_rfl) ⟨rfl, x0, x1, x2⟩ (fun hHeld => ?_)
  refine L6.takeY 0 (some 10) ?_ rfl rfl (by kernel_rfl) (by kernel_rfl) (by kernel_rfl) (fun _ _ _ h => h) (by rfl) ?_ hHeld ?_
  rotate_left
  · intro w hSw; go_simp <;> with_reducible rfl
  simp only [Act.put, List.setIfInBounds_toArray, List.set_cons_zero, List.set_cons_succ]
  refine L6.takeY 1 (some 11) ?_ rfl rfl (by kernel_rfl) (by kernel_rfl) (by kernel_rfl) (fun _ _ _ h => h) (by rfl) ?_ hHeld ?_
  rotate_left
  · intro w hSw; go_simp <;> with_reducible rfl
  simp only [Act.put, List.setIfInBounds_toArray, List.set_cons_zero, List.set_cons_succ]
  refine L6.takeY 2 (some 12) ?_ rfl rfl (by kernel_rfl) (by kernel_rfl) (by kernel_rfl) (fun _ _ _ h => h) (by rfl) ?_ hHeld ?_
  rotate_left
  · intro w hSw; go_simp <;> with_reducible rfl
  simp only [Act.put, List.setIfInBounds_toArray, List.set_cons_zero, List.set_cons_succ]
  refine L6.takeY 3 (some 13) ?_ rfl rfl (by kernel_rfl) (by kernel_rfl) (by kernel_rfl) (fun _ _ _ h => h) (by rfl) ?_ hHeld ?_
  rotate_left
  · intro w hSw; go_simp <;> with_reducible rfl
  simp only [Act.put, List.setIfInBounds_toArray, List.set_cons_zero, List.set_cons_succ]
  refine L6.takeY 4 (some 14) ?_ rfl rfl (by kernel_rfl) (by kernel_rfl) (by kernel_rfl) (fun _ _ _ h => h) (by rfl) ?_ hHeld ?_
  rotate_left
  · intro w hSw; go_simp <;> with_reducible rfl
  simp only [Act.put, List.setIfInBounds_toArray, List.set_cons_zero, List.set_cons_succ]
  refine wpAnyH_ready (rs := [5]) (by kernel_rfl) (by simp) ?_
  refine AllReadyH.cons rfl (fun K hK => ?_) AllReadyH.nil
  go_simp
  refine (unhide HBS).mono ?_
  rintro e wz ⟨rfl, hw⟩
  subst hw
  refine hK.out _ _ hHeld (fun hHeld => ?_)
  clear hK K
  try simp only [Act.put, List.setIfInBounds_toArray, List.set_cons_zero, List.set_cons_succ]
  refine L6.takeY 6 (some 16) ?_ rfl rfl (by kernel_rfl) (by kernel_rfl) (by kernel_rfl) (fun _ _ _ h => h) (by rfl) ?_ hHeld ?_
  rotate_left
  · intro w hSw; go_simp <;> with_reducible rfl
  simp only [Act.put, List.setIfInBounds_toArray, List.set_cons_zero, List.set_cons_succ]
  refine L6.takeN 7 (some 17) rfl rfl (by kernel_rfl) (by kernel_rfl) (by kernel_rfl) (fun _ _ _ h => h) (by rfl) hHeld ?_
  simp only [Act.put, List.setIfInBounds_toArray, List.set_cons_zero, List.set_cons_succ]
  refine L6.takeN 8 (some 18) rfl rfl (by kernel_rfl) (by kernel_rfl) (by kernel_rfl) (fun _ _ _ h => h) (by rfl) hHeld ?_
  simp only [Act.put, List.setIfInBounds_toArray, List.set_cons_zero, List.set_cons_succ]
  refine L6.takeN 9 (some 19) rfl rfl (by kernel_rfl) (by kernel_rfl) (by kernel_rfl) (fun _ _ _ h => h) (by rfl) hHeld ?_
  simp only [Act.put, List.setIfInBounds_toArray, List.set_cons_zero, List.set_cons_succ]
  refine L6.takeN 10 (some 20) rfl rfl (by kernel_rfl) (by kernel_rfl) (by kernel_rfl) (fun _ _ _ h => h) (by rfl) hHeld ?_
  simp only [Act.put, List.setIfInBounds_toArray, List.set_cons_zero, List.set_cons_succ]
  refine L6.takeN 11 (some 21) rfl rfl (by kernel_rfl) (by kernel_rfl) (by kernel_rfl) (fun _ _ _ h => h) (by rfl) hHeld ?_
  simp only [Act.put, List.setIfInBounds_toArray, List.set_cons_zero, List.set_cons_succ]
  refine L6.takeN 12 (some 22) rfl rfl (by kernel_rfl) (by kernel_rfl) (by kernel_rfl) (fun _ _ _ h => h) (by rfl) hHeld ?_
  simp only [Act.put, List.setIfInBounds_toArray, List.set_cons_zero, List.set_cons_succ]
  refine L6.takeN 13 (some 23) rfl rfl (by kernel_rfl) (by kernel_rfl) (by kernel_rfl) (fun _ _ _ h => h) (by rfl) hHeld ?_
  simp only [Act.put, List.setIfInBounds_toArray, List.set_cons_zero, List.set_cons_succ]
  refine L6.takeY 14 (some 24) ?_ rfl rfl (by kernel_rfl) (by kernel_rfl) (by kernel_rfl) (fun _ _ _ h => h) (by rfl) ?_ hHeld ?_
  rotate_left
  · intro w hSw; go_simp <;> with_reducible rfl
  simp only [Act.put, List.setIfInBounds_toArray, List.set_cons_zero, List.set_cons_succ]
  refine L6.takeY 15 (some 25) ?_ rfl rfl (by kernel_rfl) (by kernel_rfl) (by kernel_rfl) (fun _ _ _ h => h) (by rfl) ?_ hHeld ?_
  rotate_left
  · intro w hSw; go_simp <;> with_reducible rfl
  simp only [Act.put, List.setIfInBounds_toArray, List.set_cons_zero, List.set_cons_succ]
  refine wpAnyH_done (by kernel_rfl) ?_ _
  refine NoPanic.normal ?_
  go_wp2
  refine bodyPost_ret (v := planV g) ?_ rfl ?_
  · rw [results_cell rfl]
    unfold planV
    go_simp <;> rfl
  · have hgl : w.heap.size < g := by have := unhide HG; have := unhide HZ; omega
    exact ⟨g, rfl, Nat.le_of_lt hgl, unhide HSS _ _ _ _ hgl (unhide HSS _ _ _ _ hgl (unhide HSS _ _ _ _ hgl (unhide HKK _ _ _ (unhide HK) (below_drew _)))), L6.below_store (L6.below_store (L6.below_store ((unhide HB2).drew) w.heap.size 0 _ (Nat.le_refl _)) w.heap.size 1 _ (Nat.le_refl _)) w.heap.size 2 _ (Nat.le_refl _)⟩
end Go.Proofs.YtdelobaiicoogaaGreatDoor

/- release: of one place, the answer's own; the deferred closure. -/
namespace Go.Proofs.YtdelobaiicoogaaGreatDoor
open Go.ChangeShapes Go.WideShapes Go.ChangeAt Go.RowKit
attribute [local go_sem] Oper.semAt_some

set_option maxHeartbeats 1000000 in
/-- the answer alone was put -/
theorem release_one (M g : Nat) (cap : Nat) (q : Int) (w : World) (h10 : w.cell? ⟨M, 10, none⟩ = some (.slice (some ⟨g, 0, none⟩) 1 cap)) (hg : w.cell? ⟨g, 0, none⟩ = some (.int .i64 q)) :
    Calls Tryz.prog 84 #[.pointer (some ⟨M, 0, none⟩), .int .i64 q] w fun e w' => e = .returned (.tuple #[]) ∧ w' = w := by
  go_enter Tryz.func84, Tryz.ntmps84
  go_wp2
  refine wp_loop_rounds 2 ?_
  rw [rounds_succ]
  go_wp2
  rw [rounds_succ]
  go_wp2
  all_goals first | go_end0 | (refine bodyPost_ret (results_none rfl _ _ _) rfl ?_) | skip
  all_goals first | exact ⟨rfl, rfl⟩ | skip
end Go.Proofs.YtdelobaiicoogaaGreatDoor

/- the deferred closure of changed. -/
namespace Go.Proofs.YtdelobaiicoogaaGreatDoor
open Go.ChangeShapes Go.WideShapes Go.ChangeAt Go.RowKit
attribute [local go_sem] Oper.semAt_some

set_option maxHeartbeats 1000000 in
theorem closes_one (M g b c : Nat) (cap : Nat) (q : Int) (u : FrameMode) (w : World) (hb : w.cell? ⟨b, 0, none⟩ = some (.pointer (some ⟨M, 0, none⟩))) (hc : w.cell? ⟨c, 0, none⟩ = some (.int .i64 q))
    (h10 : w.cell? ⟨M, 10, none⟩ = some (.slice (some ⟨g, 0, none⟩) 1 cap)) (hg : w.cell? ⟨g, 0, none⟩ = some (.int .i64 q)) :
    CallsD Tryz.prog 83 #[.pointer (some ⟨b, 0, none⟩), .pointer (some ⟨c, 0, none⟩)] u w fun e u' w' => u' = u ∧ e = .returned (.tuple #[]) ∧ w' = w := by
  have HR := hide (release_one M g cap q w h10 hg)
  go_enter_d Tryz.func83, Tryz.ntmps83
  go_wp2_with fail
  refine (unhide HR).mono ?_
  rintro e w' ⟨rfl, rfl⟩
  go_wp2
  go_end0
  exact ⟨rfl, rfl⟩
end Go.Proofs.YtdelobaiicoogaaGreatDoor
