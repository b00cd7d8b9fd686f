/- Texts that the proof needs, one behind the other. -/
import Derived.Test.YtdelobaiicoogaaGreatDoorMbj
import Derived.Maps.AppendAt
import Derived.LoopN
import Derived.BigQuiet
import Derived.Deep.QuietTactic
import Derived.WalkSmall
import Derived.Deep.RegionHeld3
/- What draftOf and leafOf make of a leaf: entries in memory of one's own. -/
namespace Go.Proofs.YtdelobaiicoogaaGreatDoor
open Go.ChangeShapes Go.WideShapes Go.ChangeAt Go.RowKit
attribute [local go_sem] Oper.semAt_some

/-- an item as an entry -/
def entI (x : L6.It) : List Value := [.string x.1, .string x.2, .int .i64 0, .bool false, .slice none 0 0, .int .i64 0]
theorem info192 : (Tryz.prog.info? 192).map (fun i => (i.zero, i.size, i.bytes)) = some (some (.agg #[.string ⟨#[]⟩, .string ⟨#[]⟩, .int .i64 0, .bool false, .slice none 0 0, .int .i64 0]), 6, 80) := by kernel_rfl
/-- a row of entries of one's own -/
def OwnD (B : Nat) (w : World) (v : Value) (l : List L6.It) : Prop := w.ownsRow B 192 6 v l.length (l.flatMap entI)
theorem OwnD.nil (B : Nat) (w : World) : OwnD B w (.slice none 0 0) [] := World.ownsRow_nil _ _ _ _
theorem OwnD.grow {B : Nat} {w w' : World} {v : Value} {l : List L6.It} (h : OwnD B w v l) (hb : Below w.heap.size w w') : OwnD B w' v l :=
  L6.ownsRow_same h (fun g hg => hb.block g (World.ownsRow.lt h g hg).2)
theorem OwnD.base {B B' : Nat} {w : World} {v : Value} {l : List L6.It} (h : OwnD B w v l) (hB : B' ≤ B) : OwnD B' w v l := L6.ownsRow_base h hB
/-- draftOf under way: the node's box, the answer's variable, the draft -/
structure Dw (w wr : World) (L : Bool) (ai : Option Addr) (n ci : Nat) (ak : Option Addr) (ck : Nat) (v : Value) (l : List L6.It) : Prop where
  bel : Below w.heap.size w wr
  box : wr.heap[w.heap.size]? = some (.cells #[.bool L, .slice ai n ci, .slice ak 0 ck] 38 (0, 0))
  res : wr.heap[w.heap.size + 1]? = some (.cells #[.bool false, .slice none 0 0] 190 (0, 0))
  drf : wr.heap[w.heap.size + 2]? = some (.cells #[.bool L, v] 190 (0, 0))
  own : OwnD (w.heap.size + 3) wr v l
  siz : w.heap.size + 3 ≤ wr.heap.size
theorem Dw.new (w : World) (L : Bool) (ai : Option Addr) (n ci : Nat) (ak : Option Addr) (ck : Nat) : Dw w (((w.alloc (.cells #[.bool L, .slice ai n ci, .slice ak 0 ck] 38)).alloc (.cells #[.bool false, .slice none 0 0] 190)).alloc (.cells #[.bool L, .slice none 0 0] 190)) L ai n ci ak ck (.slice none 0 0) [] := by
  have b1 := below_alloc w (.cells #[.bool L, .slice ai n ci, .slice ak 0 ck] 38)
  have h1 := heap_alloc_new w (.cells #[.bool L, .slice ai n ci, .slice ak 0 ck] 38)
  have z1 : (w.alloc (.cells #[.bool L, .slice ai n ci, .slice ak 0 ck] 38)).heap.size = w.heap.size + 1 := World.size_alloc _ _
  generalize w.alloc (.cells #[.bool L, .slice ai n ci, .slice ak 0 ck] 38) = w1 at *
  have b2 := below_alloc w1 (.cells #[.bool false, .slice none 0 0] 190)
  have h2 := heap_alloc_new w1 (.cells #[.bool false, .slice none 0 0] 190)
  have z2 : (w1.alloc (.cells #[.bool false, .slice none 0 0] 190)).heap.size = w1.heap.size + 1 := World.size_alloc _ _
  generalize w1.alloc (.cells #[.bool false, .slice none 0 0] 190) = w2 at *
  have b3 := below_alloc w2 (.cells #[.bool L, .slice none 0 0] 190)
  have h3 := heap_alloc_new w2 (.cells #[.bool L, .slice none 0 0] 190)
  have z3 : (w2.alloc (.cells #[.bool L, .slice none 0 0] 190)).heap.size = w2.heap.size + 1 := World.size_alloc _ _
  rw [z1] at h2
  rw [z2, z1] at h3
  exact ⟨below_then (below_then b1 b2) b3, (b3.block _ (by omega)).trans ((b2.block _ (by omega)).trans h1), (b3.block _ (by omega)).trans h2, h3, OwnD.nil _ _, by omega⟩
theorem Dw.grow {w wr wq : World} {L : Bool} {ai : Option Addr} {n ci : Nat} {ak : Option Addr} {ck : Nat} {v : Value} {l : List L6.It} (h : Dw w wr L ai n ci ak ck v l) (hb : Below wr.heap.size wr wq) : Dw w wq L ai n ci ak ck v l :=
  ⟨below_then h.bel hb, (hb.block _ (by have := h.siz; omega)).trans h.box, (hb.block _ (by have := h.siz; omega)).trans h.res, (hb.block _ (by have := h.siz; omega)).trans h.drf, h.own.grow hb, Nat.le_trans h.siz hb.size⟩
theorem Dw.facts {w wr : World} {L : Bool} {ai : Option Addr} {n ci : Nat} {ak : Option Addr} {ck : Nat} {v : Value} {l : List L6.It} (h : Dw w wr L ai n ci ak ck v l) :
    wr.cell? ⟨w.heap.size, 2, none⟩ = some (.slice ak 0 ck) ∧ wr.cell? ⟨w.heap.size + 2, 0, none⟩ = some (.bool L) ∧ wr.cell? ⟨w.heap.size + 2, 1, none⟩ = some v ∧ (∀ i, wr.frozen? ⟨w.heap.size + 2, i, none⟩ = false) ∧
    wr.cell? ⟨w.heap.size + 1, 0, none⟩ = some (.bool false) ∧ wr.cell? ⟨w.heap.size + 1, 1, none⟩ = some (.slice none 0 0) ∧ ∀ i, wr.frozen? ⟨w.heap.size + 1, i, none⟩ = false := by
  have h0 := h.box
  have h1 := h.res
  have h2 := h.drf
  exact ⟨by simp [World.cell?, h0], by simp [World.cell?, h2], by simp [World.cell?, h2], fun i => by simp [World.frozen?, h2], by simp [World.cell?, h1], by simp [World.cell?, h1], fun i => by simp [World.frozen?, h1]⟩
/-- one entry more -/
theorem Dw.app {w W w1 : World} {L : Bool} {ai : Option Addr} {n ci : Nat} {ak : Option Addr} {ck : Nat} {v v' : Value} {l : List L6.It} {x : L6.It} {tmp : Obj} (h : Dw w W L ai n ci ak ck v l)
    (hown' : w1.ownsRow (w.heap.size + 3) 192 6 v' (l.length + 1) (l.flatMap entI ++ entI x)) (hgrow : (W.alloc tmp).grownBy w1 v.ownBlock) : Dw w (w1.setCell ⟨w.heap.size + 2, 1, none⟩ v') L ai n ci ak ck v' (l ++ [x]) ∧ w1.cell? ⟨w.heap.size + 2, 1, none⟩ = some v ∧ ∀ i, w1.frozen? ⟨w.heap.size + 2, i, none⟩ = false := by
  have hlt := h.siz
  have hk : ∀ g, g < w.heap.size + 3 → w1.heap[g]? = W.heap[g]? := fun g hg =>
    (hgrow.block g (by rw [World.size_alloc]; omega) (fun e => by have := (World.ownsRow.lt h.own g e.symm).1; omega)).trans (Below.heap_alloc _ _ _ (by omega))
  have hsz : W.heap.size ≤ w1.heap.size := by have := hgrow.size; rw [World.size_alloc] at this; omega
  have hd := (hk _ (by omega)).trans h.drf
  have hs : (w1.setCell ⟨w.heap.size + 2, 1, none⟩ v').heap.size = w1.heap.size := by simp [World.setCell]
  have ho : ∀ g, g ≠ w.heap.size + 2 → (w1.setCell ⟨w.heap.size + 2, 1, none⟩ v').heap[g]? = w1.heap[g]? := fun g hg => by
    simp [World.setCell, Array.getElem?_modify, Ne.symm hg]
  refine ⟨⟨L6.below_store ⟨hgrow.os.trans h.bel.os, hgrow.tape.trans h.bel.tape, hgrow.output.trans h.bel.output, by have := h.bel.size; omega, fun k hk' => (hk k (by omega)).trans (h.bel.block k hk')⟩ (w.heap.size + 2) 1 v' (by omega),
    (ho _ (by omega)).trans ((hk _ (by omega)).trans h.box), (ho _ (by omega)).trans ((hk _ (by omega)).trans h.res), ?_, ?_, by rw [hs]; omega⟩, by simp [World.cell?, hd], fun i => by simp [World.frozen?, hd]⟩
  · simp [World.setCell, Array.getElem?_modify, hd]
  · have e : (l ++ [x]).flatMap entI = l.flatMap entI ++ entI x := by rw [List.flatMap_append]; simp
    unfold OwnD
    rw [e, List.length_append, List.length_cons, List.length_nil]
    exact ownsRow_setCell_other hown' (fun e => by have := (World.ownsRow.lt hown' _ e).1; simp only at this; omega) v'
set_option maxHeartbeats 4000000 in
set_option maxRecDepth 20000 in
theorem draftOf_leaf (L : Bool) (its : List L6.It) (ai : Option Addr) (ci : Nat) (ak : Option Addr) (ck : Nat) (w : World) (hr : L6.Row itV w ai its) (hl : its.length ≤ 1100) :
    Calls Tryz.prog 152 #[.agg #[.bool L, .slice ai its.length ci, .slice ak 0 ck]] w fun e w' => ∃ v, e = .returned (.agg #[.bool L, v]) ∧ OwnD w.heap.size w' v its ∧ Below w.heap.size w w' := by
  have HR := hide hr
  have HL := hide hl
  clear hr hl
  go_enter Tryz.func152, Tryz.ntmps152
  go_wp2
  have HD0 := hide (Dw.new w L ai its.length ci ak ck)
  generalize (((w.alloc (.cells #[.bool L, .slice ai its.length ci, .slice ak 0 ck] 38)).alloc (.cells #[.bool false, .slice none 0 0] 190)).alloc (.cells #[.bool L, .slice none 0 0] 190)) = w1 at *
  go_loopw [14] (fun t wr => ∃ (k : Nat) (v : Value), k ≤ its.length ∧ t = .int .i64 (k : Int) ∧ Dw w wr L ai its.length ci ak ck v (its.take k)) (fun t _ => its.length - (intOf t).toNat)
  case atStart => exact ⟨0, _, Nat.zero_le _, rfl, unhide HD0⟩
  case round =>
    obtain ⟨k, v, hk, rfl, hD⟩ := hrel
    have HD := hide hD
    by_cases hlt : k < its.length
    · obtain ⟨b, off, rfl, hr⟩ := ((unhide HR).grow hD.bel).at hlt
      obtain ⟨⟨key, val⟩, hx⟩ := L6.get_some hlt
      obtain ⟨c0, c1⟩ := hr k _ hx
      simp only [itV] at c0 c1
      have hlen : (its.take k).length = k := by rw [List.length_take]; omega
      have hD2 := hD.grow (below_alloc wr (.cells #[.string key, .string val] 58))
      obtain ⟨_, g0, g1, gf, _, _, _⟩ := hD2.facts
      have HD2 := hide hD2
      have HX : Hid (its.take (k + 1) = its.take k ++ [(key, val)]) := by
        show _ = _
        rw [take_next hlt, (List.getElem?_eq_some_iff.1 hx).2]
      have HOw : Hid (((wr.alloc (.cells #[.string key, .string val] 58)).ownsRow (w.heap.size + 3) 192 6 v k ((its.take k).flatMap entI))) := by
        have h1 : OwnD _ _ _ _ := hD2.own
        unfold OwnD at h1
        rw [hlen] at h1
        exact h1
      have HLN := hide hlen
      have hL1 := unhide HL
      clear hr hx hD hD2 hlen
      obtain ⟨j0, hi, hz0, hz1, hz2⟩ := info_parts info192
      go_wp2_with (first
        | (at_builtin; refine wpList_append_own_at _ rfl _ _ 185 rfl (w.heap.size + 3) 192 j0 (.agg #[.string ⟨#[]⟩, .string ⟨#[]⟩, .int .i64 0, .bool false, .slice none 0 0, .int .i64 0]) 6 80 Tryz.underlying185 hi hz0 hz1 hz2 rfl (by decide) v k ((its.take k).flatMap entI) rfl (World.ownsRow.alloc (unhide HOw) _) ⟨wr.heap.size + 1, 0, none⟩ 1 1 (entI (key, val)) rfl rfl (fun j u hj => by rw [Go.WideShapes.add_plain, Nat.zero_add]; simpa [entI] using hj) (by simp [entI, Value.oneCell']) (by unfold maxLen; omega) (by omega) (by rw [World.size_alloc, World.size_alloc]; have := (unhide HD2).siz; rw [World.size_alloc] at this; omega) ?_; intro v' w5 hown' hgrow _ _; obtain ⟨g', cap', rfl⟩ := ownsRow_succ hown'; obtain ⟨ha, hc, hf⟩ := (unhide HD2).app (x := (key, val)) (by rw [unhide HLN]; exact hown') hgrow; have HA := hide ha; clear hown' hgrow ha))
      refine ⟨⟨k + 1, _, hlt, by go_num, by rw [unhide HX]; exact unhide HA⟩, ?_⟩
      show its.length - (k + 1) < its.length - k
      omega
    · have hke : k = its.length := by omega
      subst hke
      rw [List.take_length] at hD
      obtain ⟨va, vc, rfl⟩ := L6.ownsRow_form hD.own
      obtain ⟨x0, g0, g1, gf, r0, r1, rf⟩ := hD.facts
      have HD3 := hide hD
      clear hD HD
      go_wp2
      refine wp_loop_rounds 1 ?_
      rw [rounds_succ]
      go_wp2
      refine bodyPost_ret (v := .agg #[.bool L, .slice va its.length vc]) ?_ rfl ?_
      · rw [results_cell rfl]
        go_simp
      · have hh := unhide HD3
        refine ⟨_, rfl, ?_, L6.below_store (L6.below_store hh.bel (w.heap.size + 1) 0 _ (by omega)) (w.heap.size + 1) 1 _ (by omega)⟩
        exact (ownsRow_setCell_other (ownsRow_setCell_other hh.own (fun e => by have := (World.ownsRow.lt hh.own _ e).1; simp only at this; omega) _) (fun e => by have := (World.ownsRow.lt hh.own _ e).1; simp only at this; omega) _ |> fun h => L6.ownsRow_base h (by omega))
end Go.Proofs.YtdelobaiicoogaaGreatDoor

/- The small functions of a draft that is a leaf: its bytes, its nodes, its parts. -/
namespace Go.Proofs.YtdelobaiicoogaaGreatDoor
open Go.ChangeShapes Go.WideShapes Go.ChangeAt Go.RowKit
attribute [local go_sem] Oper.semAt_some

theorem entI_get : ∀ (l : List L6.It) (k j : Nat) (x : L6.It), l[k]? = some x → j < 6 → (l.flatMap entI)[k * 6 + j]? = (entI x)[j]?
  | [], k, j, x, h, _ => by simp at h
  | y :: t, 0, j, x, h, hj => by
    have e : y = x := by simpa using h
    subst e
    rw [List.flatMap_cons, List.getElem?_append_left (by simp [entI]; omega)]
    congr 1
    omega
  | y :: t, k + 1, j, x, h, hj => by
    have h' : t[k]? = some x := by simpa using h
    have e : (k + 1) * 6 + j = (entI y).length + (k * 6 + j) := by simp [entI]; omega
    rw [List.flatMap_cons, e, List.getElem?_append_right (by omega), Nat.add_sub_cancel_left]
    exact entI_get t k j x h' hj
/-- entries in memory -/
def RowD (w : World) (a : Option Addr) (l : List L6.It) : Prop := l = [] ∨ ∃ b off, a = some ⟨b, off, none⟩ ∧ ∀ (k : Nat) (x : L6.It), l[k]? = some x →
  w.cell? ⟨b, off + k * 6, none⟩ = some (.string x.1) ∧ w.cell? ⟨b, off + k * 6 + 1, none⟩ = some (.string x.2) ∧ w.cell? ⟨b, off + k * 6 + 2, none⟩ = some (.int .i64 0) ∧ w.cell? ⟨b, off + k * 6 + 3, none⟩ = some (.bool false) ∧
  w.cell? ⟨b, off + k * 6 + 4, none⟩ = some (.slice none 0 0) ∧ w.cell? ⟨b, off + k * 6 + 5, none⟩ = some (.int .i64 0)
theorem RowD.grow {w w' : World} {a : Option Addr} {l : List L6.It} (h : RowD w a l) (hb : Below w.heap.size w w') : RowD w' a l := by
  rcases h with h | ⟨b, off, e, h⟩
  · exact .inl h
  · refine .inr ⟨b, off, e, fun k x hx => ?_⟩
    obtain ⟨h0, h1, h2, h3, h4, h5⟩ := h k x hx
    have q : ∀ {i : Nat} {v : Value}, w.cell? ⟨b, i, none⟩ = some v → w'.cell? ⟨b, i, none⟩ = some v := fun hh => (hb.cell (World.block_lt_of_cell? w _ hh)).trans hh
    exact ⟨q h0, q h1, q h2, q h3, q h4, q h5⟩
theorem RowD.at {w : World} {a : Option Addr} {l : List L6.It} (h : RowD w a l) {k : Nat} {x : L6.It} (hx : l[k]? = some x) : ∃ b off, a = some ⟨b, off, none⟩ ∧
    w.cell? ⟨b, off + k * 6, none⟩ = some (.string x.1) ∧ w.cell? ⟨b, off + k * 6 + 1, none⟩ = some (.string x.2) ∧ w.cell? ⟨b, off + k * 6 + 2, none⟩ = some (.int .i64 0) ∧ w.cell? ⟨b, off + k * 6 + 3, none⟩ = some (.bool false) ∧
    w.cell? ⟨b, off + k * 6 + 4, none⟩ = some (.slice none 0 0) ∧ w.cell? ⟨b, off + k * 6 + 5, none⟩ = some (.int .i64 0) := by
  rcases h with rfl | ⟨b, off, e, h⟩
  · simp at hx
  · exact ⟨b, off, e, h k x hx⟩
theorem OwnD.rowD {B : Nat} {w : World} {a : Option Addr} {n cap : Nat} {l : List L6.It} (h : OwnD B w (.slice a n cap) l) : RowD w a l := by
  have h' := h
  rcases h.2 with ⟨_, hn⟩ | ⟨g, cap', cur, e, _⟩
  · exact .inl (List.length_eq_zero_iff.1 hn)
  · injection e with e1 e2 e3
    subst e1 e2 e3
    refine .inr ⟨g, 0, rfl, fun k x hx => ?_⟩
    have hk : k < l.length := (List.getElem?_eq_some_iff.1 hx).1
    have q : ∀ j, j < 6 → w.cell? ⟨g, k * 6 + j, none⟩ = (entI x)[j]? := fun j hj => (World.ownsRow.cellAt h' (k * 6 + j) (by omega)).trans (entI_get l k j x hx hj)
    rw [Nat.zero_add]
    exact ⟨q 0 (by omega), q 1 (by omega), q 2 (by omega), q 3 (by omega), q 4 (by omega), q 5 (by omega)⟩
theorem OwnD.form {B : Nat} {w : World} {v : Value} {l : List L6.It} (h : OwnD B w v l) : ∃ a cap, v = .slice a l.length cap := L6.ownsRow_form h

/-- THE PROGRAM's: how many bytes a short number has -/
def ssz (n : Nat) : Nat := if n < 128 then 1 else 2
theorem ssz_any (n : Nat) (w : World) : Calls Tryz.prog 261 #[.int .i64 (n : Int)] w fun e w' => e = .returned (.int .i64 (ssz n : Int)) ∧ w' = w := by
  unfold ssz
  by_cases h : n < 128
  · rw [if_pos h]
    have h1 : (n : Int) < 128 := by omega
    clear h
    go_enter Tryz.func261, Tryz.ntmps261
    go_wp2
    go_ret
    exact ⟨rfl, rfl⟩
  · rw [if_neg h]
    have h1 : ¬ (n : Int) < 128 := by omega
    clear h
    go_enter Tryz.func261, Tryz.ntmps261
    go_wp2
    go_ret
    exact ⟨rfl, rfl⟩
def isz (x : L6.It) : Nat := ssz x.1.size + x.1.size + ssz x.2.size + x.2.size
theorem ssz_le (n : Nat) : ssz n ≤ 2 := by unfold ssz; split <;> omega
set_option maxHeartbeats 4000000 in
set_option maxRecDepth 20000 in
theorem sizeAt_any (l : List L6.It) (a : Option Addr) (cap k : Nat) (x : L6.It) (w : World) (hr : RowD w a l) (hx : l[k]? = some x) (h1 : x.1.size ≤ 100000) (h2 : x.2.size ≤ 100000) :
    Calls Tryz.prog 262 #[.agg #[.bool true, .slice a l.length cap], .int .i64 (k : Int)] w fun e w' => e = .returned (.int .i64 (isz x : Int)) ∧ Below w.heap.size w w' := by
  have hk : k < l.length := (List.getElem?_eq_some_iff.1 hx).1
  obtain ⟨b, off, rfl, c0, c1, c2, c3, c4, c5⟩ := (hr.grow (below_alloc w (.cells #[.bool true, .slice a l.length cap] 190))).at hx
  obtain ⟨key, val⟩ := x
  simp only at c0 c1 h1 h2
  have s1 := ssz_le key.size
  have s2 := ssz_le val.size
  have HZ := hide (fun n W => ssz_any n W)
  have HB := hide (below_alloc w (.cells #[.bool true, .slice (some ⟨b, off, none⟩) l.length cap] 190))
  unfold isz
  have hb0 := hide (And.intro h1 (And.intro h2 (And.intro s1 s2)))
  clear hr hx
  go_enter Tryz.func262, Tryz.ntmps262
  go_wp2_with fail
  have d0 : ((w.alloc (.cells #[.bool true, .slice (some ⟨b, off, none⟩) l.length cap] 190)).alloc (.cells #[.string key, .string val, .int .i64 0, .bool false, .slice none 0 0, .int .i64 0] 192)).cell? ⟨w.heap.size + 1, 0, none⟩ = some (.string key) := by simp
  have d1 : ((w.alloc (.cells #[.bool true, .slice (some ⟨b, off, none⟩) l.length cap] 190)).alloc (.cells #[.string key, .string val, .int .i64 0, .bool false, .slice none 0 0, .int .i64 0] 192)).cell? ⟨w.heap.size + 1, 1, none⟩ = some (.string val) := by simp
  have d2 : ((w.alloc (.cells #[.bool true, .slice (some ⟨b, off, none⟩) l.length cap] 190)).alloc (.cells #[.string key, .string val, .int .i64 0, .bool false, .slice none 0 0, .int .i64 0] 192)).cell? ⟨w.heap.size, 0, none⟩ = some (.bool true) := by
    have h := (below_alloc (w.alloc (.cells #[.bool true, .slice (some ⟨b, off, none⟩) l.length cap] 190)) (.cells #[.string key, .string val, .int .i64 0, .bool false, .slice none 0 0, .int .i64 0] 192)).cell (p := ⟨w.heap.size, 0, none⟩) (by simp)
    rw [h]
    simp
  have HB2 := hide (below_then (unhide HB) (below_alloc (w.alloc (.cells #[.bool true, .slice (some ⟨b, off, none⟩) l.length cap] 190)) (.cells #[.string key, .string val, .int .i64 0, .bool false, .slice none 0 0, .int .i64 0] 192)))
  generalize ((w.alloc (.cells #[.bool true, .slice (some ⟨b, off, none⟩) l.length cap] 190)).alloc (.cells #[.string key, .string val, .int .i64 0, .bool false, .slice none 0 0, .int .i64 0] 192)) = w2 at *
  go_region_held3 (fun w' => w'.cell? ⟨w.heap.size + 1, 0, none⟩ = some (.string key) ∧ w'.cell? ⟨w.heap.size + 1, 1, none⟩ = some (.string val))
    (first | assumption | (exact ⟨d0, d1⟩))
    (first | (go_at_call 261; refine (unhide HZ _ _).mono ?_; rintro e wz ⟨rfl, hw⟩; subst hw))
  go_wp2_with fail
  go_region_held3 (fun w' => w'.cell? ⟨w.heap.size + 1, 0, none⟩ = some (.string key) ∧ w'.cell? ⟨w.heap.size + 1, 1, none⟩ = some (.string val))
    (first | assumption | (exact ⟨d0, d1⟩))
    (first | (go_at_call 261; refine (unhide HZ _ _).mono ?_; rintro e wz ⟨rfl, hw⟩; subst hw))
  go_wp2
  go_ret
  obtain ⟨k1, k2, k3, k4⟩ := unhide hb0
  refine ⟨L6.ret_int ?_, (unhide HB2).drew.drew⟩
  simp only [IntKind.wrap_i64]
  omega

/-- THE PROGRAM's: how many bytes a leaf has -/
def lsz (l : List L6.It) : Nat := 1 + ssz l.length + (l.map isz).sum
theorem lsz_take (l : List L6.It) (k : Nat) (x : L6.It) (hx : l[k]? = some x) : 1 + ssz l.length + ((l.take (k + 1)).map isz).sum = 1 + ssz l.length + ((l.take k).map isz).sum + isz x := by
  have hk : k < l.length := (List.getElem?_eq_some_iff.1 hx).1
  rw [take_next hk, (List.getElem?_eq_some_iff.1 hx).2, List.map_append, List.sum_append, List.map_cons, List.map_nil, List.sum_cons, List.sum_nil]
  omega
def Tame (l : List L6.It) : Prop := l.length ≤ 1100 ∧ ∀ x ∈ l, x.1.size ≤ 1000 ∧ x.2.size ≤ 1000
theorem isz_le {l : List L6.It} (h : Tame l) {k : Nat} {x : L6.It} (hx : l[k]? = some x) : isz x ≤ 2004 := by
  obtain ⟨h1, h2⟩ := h.2 x (List.mem_of_getElem? hx)
  have := ssz_le x.1.size
  have := ssz_le x.2.size
  unfold isz
  omega
theorem sum_le {l : List L6.It} (h : Tame l) : ∀ k, k ≤ l.length → ((l.take k).map isz).sum ≤ k * 2004
  | 0, _ => by simp
  | k + 1, hk => by
    have ih := sum_le h k (by omega)
    obtain ⟨x, hx⟩ := L6.get_some (show k < l.length by omega)
    have h1 := isz_le h hx
    obtain ⟨hk', hxx⟩ := List.getElem?_eq_some_iff.1 hx
    rw [take_next hk', hxx, List.map_append, List.sum_append, List.map_cons, List.map_nil, List.sum_cons, List.sum_nil]
    omega
set_option maxHeartbeats 4000000 in
set_option maxRecDepth 20000 in
theorem size_any (l : List L6.It) (a : Option Addr) (cap : Nat) (w : World) (hr : RowD w a l) (ht : Tame l) :
    Calls Tryz.prog 242 #[.agg #[.bool true, .slice a l.length cap]] w fun e w' => e = .returned (.int .i64 (lsz l : Int)) ∧ Below w.heap.size w w' := by
  have HZ := hide (fun n W => ssz_any n W)
  have s1 := ssz_le l.length
  have HR := hide (hr.grow (below_alloc w (.cells #[.bool true, .slice a l.length cap] 190)))
  have HT := hide ht
  have HB := hide (below_alloc w (.cells #[.bool true, .slice a l.length cap] 190))
  have hl := ht.1
  clear hr ht
  go_enter Tryz.func242, Tryz.ntmps242
  go_wp2_with fail
  have c0 : (w.alloc (.cells #[.bool true, .slice a l.length cap] 190)).cell? ⟨w.heap.size, 0, none⟩ = some (.bool true) := by simp
  have c1 : (w.alloc (.cells #[.bool true, .slice a l.length cap] 190)).cell? ⟨w.heap.size, 1, none⟩ = some (.slice a l.length cap) := by simp
  generalize w.alloc (.cells #[.bool true, .slice a l.length cap] 190) = w1 at *
  refine (unhide HZ _ _).mono ?_
  rintro e w1 ⟨rfl, rfl⟩
  go_wp2_with fail
  go_loopw [3, 13] (fun s t wr => ∃ k : Nat, k ≤ l.length ∧ t = .int .i64 (k : Int) ∧ s = .int .i64 ((1 + ssz l.length + ((l.take k).map isz).sum : Nat) : Int) ∧ Below w1.heap.size w1 wr) (fun _ t _ => l.length - (intOf t).toNat)
  case atStart => exact ⟨0, Nat.zero_le _, rfl, by go_num, Below.refl _ _⟩
  case round =>
    obtain ⟨k, hk, rfl, rfl, hb⟩ := hrel
    have x0 := (hb.cell (World.block_lt_of_cell? w1 _ c0)).trans c0
    have x1 := (hb.cell (World.block_lt_of_cell? w1 _ c1)).trans c1
    have HB1 := hide hb
    have hs := sum_le (unhide HT) k hk
    by_cases hlt : k < l.length
    · obtain ⟨x, hx⟩ := L6.get_some hlt
      have HS := hide (lsz_take l k x hx)
      have hi := isz_le (unhide HT) hx
      obtain ⟨e1, e2⟩ := (unhide HT).2 x (List.mem_of_getElem? hx)
      have HA := hide (sizeAt_any l a cap k x wr ((unhide HR).grow hb) hx (by omega) (by omega))
      clear hb hx
      generalize ((l.take k).map isz).sum = q at *
      go_wp2_with (go_at_call 262; refine (unhide HA).mono ?_; rintro e w3 ⟨rfl, hb3⟩)
      refine ⟨⟨k + 1, hlt, by go_num, ?_, below_then (unhide HB1) hb3⟩, ?_⟩
      · rw [unhide HS]
        go_num
      · show l.length - (k + 1) < l.length - k
        omega
    · have hke : k = l.length := by omega
      subst hke
      have HE : Hid (1 + ssz l.length + ((l.take l.length).map isz).sum = lsz l) := by
        show _ = _
        rw [List.take_length]
        rfl
      clear hb
      go_wp2
      go_ret
      exact ⟨L6.ret_int (by rw [← unhide HE]), below_then (unhide HB) (unhide HB1)⟩

/-- a leaf's bytes are too many for a block -/
theorem isBig_any (l : List L6.It) (a : Option Addr) (cap : Nat) (w : World) (hr : RowD w a l) (ht : Tame l) (hs : lsz l ≤ 1007) :
    Calls Tryz.prog 216 #[.agg #[.bool true, .slice a l.length cap]] w fun e w' => e = .returned (.bool false) ∧ Below w.heap.size w w' := by
  have HS := hide (size_any l a cap _ (hr.grow (below_alloc w (.cells #[.bool true, .slice a l.length cap] 190))) ht)
  have HB := hide (below_alloc w (.cells #[.bool true, .slice a l.length cap] 190))
  have hz : decide ((1007 : Int) < (lsz l : Int)) = false := decide_eq_false (by omega)
  clear hr ht hs
  go_enter Tryz.func216, Tryz.ntmps216
  go_wp2_with (go_at_call 242; refine (unhide HS).mono ?_; rintro e w3 ⟨rfl, hb3⟩)
  go_ret
  exact ⟨rfl, below_then (unhide HB) hb3⟩
set_option maxHeartbeats 4000000 in
set_option maxRecDepth 20000 in
theorem nodesOf_any (l : List L6.It) (a : Option Addr) (cap : Nat) (w : World) (hr : RowD w a l) (hl : l.length ≤ 1100) :
    Calls Tryz.prog 200 #[.slice a l.length cap] w fun e w' => e = .returned (.int .i64 0) ∧ Below w.heap.size w w' := by
  have HR := hide hr
  clear hr
  go_enter Tryz.func200, Tryz.ntmps200
  go_wp2
  go_loopw [3, 8] (fun s t wr => ∃ k : Nat, k ≤ l.length ∧ t = .int .i64 (k : Int) ∧ s = .int .i64 0 ∧ Below w.heap.size w wr) (fun _ t _ => l.length - (intOf t).toNat)
  case atStart => exact ⟨0, Nat.zero_le _, rfl, rfl, Below.refl _ _⟩
  case round =>
    obtain ⟨k, hk, rfl, rfl, hb⟩ := hrel
    have HB1 := hide hb
    by_cases hlt : k < l.length
    · obtain ⟨x, hx⟩ := L6.get_some hlt
      obtain ⟨b, off, rfl, c0, c1, c2, c3, c4, c5⟩ := ((unhide HR).grow hb).at hx
      clear hb hx
      go_wp2
      refine ⟨⟨k + 1, hlt, by go_num, rfl, below_then (unhide HB1) (below_alloc _ _)⟩, ?_⟩
      show l.length - (k + 1) < l.length - k
      omega
    · have hke : k = l.length := by omega
      subst hke
      clear hb
      go_wp2
      go_ret
      exact ⟨rfl, unhide HB1⟩
end Go.Proofs.YtdelobaiicoogaaGreatDoor

/- What planned, parts, isLonely, crowned and the questions of a maker without a way answer. -/
namespace Go.Proofs.YtdelobaiicoogaaGreatDoor
open Go.ChangeShapes Go.WideShapes Go.ChangeAt Go.RowKit
attribute [local go_sem] Oper.semAt_some

theorem blk_facts {w : World} {b : Nat} {cs : Array Value} {t : TypeId} (h : w.heap[b]? = some (.cells cs t (0, 0))) : (∀ i v, cs[i]? = some v → w.cell? ⟨b, i, none⟩ = some v) ∧ ∀ i, w.frozen? ⟨b, i, none⟩ = false :=
  ⟨fun i v hv => by simp [World.cell?, h, hv], fun i => by simp [World.frozen?, h]⟩
set_option maxHeartbeats 4000000 in
set_option maxRecDepth 20000 in
theorem planned_any (key : ByteArray) (l : List L6.It) (a : Option Addr) (cap : Nat) (w : World) (hr : RowD w a l) (hl : l.length ≤ 1100) :
    Calls Tryz.prog 237 #[.string key, .agg #[.bool true, .slice a l.length cap]] w fun e w' => e = .returned (.agg #[.string key, .string ⟨#[]⟩, .int .i64 0, .bool true, .slice a l.length cap, .int .i64 1]) ∧ Below w.heap.size w w' := by
  have b1 := below_alloc w (.cells #[.bool true, .slice a l.length cap] 190)
  have b2 := below_alloc (w.alloc (.cells #[.bool true, .slice a l.length cap] 190)) (.cells #[.string ⟨#[]⟩, .string ⟨#[]⟩, .int .i64 0, .bool false, .slice none 0 0, .int .i64 0] 192)
  have hsz : (w.alloc (.cells #[.bool true, .slice a l.length cap] 190)).heap.size = w.heap.size + 1 := World.size_alloc _ _
  have hn1 := heap_alloc_new w (.cells #[.bool true, .slice a l.length cap] 190)
  have hn2 := heap_alloc_new (w.alloc (.cells #[.bool true, .slice a l.length cap] 190)) (.cells #[.string ⟨#[]⟩, .string ⟨#[]⟩, .int .i64 0, .bool false, .slice none 0 0, .int .i64 0] 192)
  have hx := (b2.block w.heap.size (by omega)).trans hn1
  rw [hsz] at hn2
  have hs2 : ((w.alloc (.cells #[.bool true, .slice a l.length cap] 190)).alloc (.cells #[.string ⟨#[]⟩, .string ⟨#[]⟩, .int .i64 0, .bool false, .slice none 0 0, .int .i64 0] 192)).heap.size = w.heap.size + 2 := by rw [World.size_alloc, hsz]
  have HR := hide ((hr.grow b1).grow b2)
  have HB := hide (below_then b1 b2)
  have KB : Hid (∀ wq, Below (w.heap.size + 1) ((w.alloc (.cells #[.bool true, .slice a l.length cap] 190)).alloc (.cells #[.string ⟨#[]⟩, .string ⟨#[]⟩, .int .i64 0, .bool false, .slice none 0 0, .int .i64 0] 192)) wq → (fun w' => w'.cell? ⟨w.heap.size, 0, none⟩ = some (.bool true) ∧ w'.cell? ⟨w.heap.size, 1, none⟩ = some (.slice a l.length cap)) wq) := fun wq h =>
    ⟨(h.cell (p := ⟨w.heap.size, 0, none⟩) (by show w.heap.size < w.heap.size + 1; omega)).trans ((blk_facts hx).1 0 _ rfl), (h.cell (p := ⟨w.heap.size, 1, none⟩) (by show w.heap.size < w.heap.size + 1; omega)).trans ((blk_facts hx).1 1 _ rfl)⟩
  have HN2 := hide hn2
  have HS2 := hide hs2
  have HL := hide hl
  clear b1 b2 hsz hn1 hn2 hx hs2 hr hl
  go_enter Tryz.func237, Tryz.ntmps237
  go_wp2_with fail
  generalize ((w.alloc (.cells #[.bool true, .slice a l.length cap] 190)).alloc (.cells #[.string ⟨#[]⟩, .string ⟨#[]⟩, .int .i64 0, .bool false, .slice none 0 0, .int .i64 0] 192)) = w1 at *
  have HC := hide (nodesOf_any l a cap w1.drew (unhide HR) (unhide HL))
  obtain ⟨x0, x1⟩ := unhide KB _ ((Below.refl _ _).drew)
  go_region_with (go_at_call 200; refine (unhide HC).mono ?_; rintro e w2 ⟨rfl, hb⟩; have hb' : Below w1.heap.size w1 w2 := below_then (below_drew w1) hb; obtain ⟨y0, y1⟩ := unhide KB _ (hb'.mono (by have := unhide HS2; omega)); have hn := (hb'.block (w.heap.size + 1) (by have := unhide HS2; omega)).trans (unhide HN2); obtain ⟨hc, hf⟩ := blk_facts hn; have z0 := hc 0 _ rfl; have z1 := hc 1 _ rfl; have z2 := hc 2 _ rfl; have z3 := hc 3 _ rfl; have z4 := hc 4 _ rfl; have z5 := hc 5 _ rfl; have HBW := hide (below_then (unhide HB) hb'); clear hb hb' hc hn)
  all_goals
    go_wp2
    refine bodyPost_ret (v := .agg #[.string key, .string ⟨#[]⟩, .int .i64 0, .bool true, .slice a l.length cap, .int .i64 1]) ?_ rfl ⟨rfl, ?_⟩
    · rw [results_cell rfl]
      go_simp <;> rfl
    · exact L6.below_store (L6.below_store (L6.below_store (L6.below_store (L6.below_store (L6.below_store (unhide HBW) (w.heap.size + 1) 0 _ (by omega)) (w.heap.size + 1) 1 _ (by omega)) (w.heap.size + 1) 2 _ (by omega)) (w.heap.size + 1) 3 _ (by omega)) (w.heap.size + 1) 4 _ (by omega)) (w.heap.size + 1) 5 _ (by omega)

set_option maxHeartbeats 4000000 in
set_option maxRecDepth 20000 in
/-- a leaf that isn't too big is one part -/
theorem parts_any (key : ByteArray) (l : List L6.It) (a : Option Addr) (cap : Nat) (f : Bool) (w : World) (hr : RowD w a l) (ht : Tame l) (hs : lsz l ≤ 1007) :
    Calls Tryz.prog 211 #[.agg #[.bool true, .slice a l.length cap], .string key, .bool f] w fun e w' => ∃ g, e = .returned (.slice (some ⟨g, 0, none⟩) 1 1) ∧ w.heap.size ≤ g ∧ w'.heap[g]? = some (.cells #[.string key, .string ⟨#[]⟩, .int .i64 0, .bool true, .slice a l.length cap, .int .i64 1] 192 (0, 0)) ∧ Below w.heap.size w w' := by
  have b1 := below_alloc w (.cells #[.bool true, .slice a l.length cap] 190)
  have hn1 := heap_alloc_new w (.cells #[.bool true, .slice a l.length cap] 190)
  have HI := hide (isBig_any l a cap _ (hr.grow b1) ht hs)
  have HP := hide (fun W hW => planned_any key l a cap W ((hr.grow b1).grow hW) ht.1)
  have HB := hide b1
  have HN := hide hn1
  clear b1 hn1 hr ht hs
  go_enter Tryz.func211, Tryz.ntmps211
  go_wp2_with fail
  have x0 := (blk_facts (unhide HN)).1 0 _ rfl
  have x1 := (blk_facts (unhide HN)).1 1 _ rfl
  have HLT : Hid (w.heap.size < (w.alloc (.cells #[.bool true, .slice a l.length cap] 190)).heap.size) := (Array.getElem?_eq_some_iff.1 (unhide HN)).1
  generalize w.alloc (.cells #[.bool true, .slice a l.length cap] 190) = w1 at *
  refine (unhide HI).mono ?_
  rintro e w2 ⟨rfl, hb⟩
  have y0 := (hb.cell (p := ⟨w.heap.size, 0, none⟩) (unhide HLT)).trans x0
  have y1 := (hb.cell (p := ⟨w.heap.size, 1, none⟩) (unhide HLT)).trans x1
  have HB2 := hide (below_then (unhide HB) hb)
  have HP2 := hide (unhide HP _ hb)
  clear hb x0 x1
  go_wp2_with fail
  refine (unhide HP2).mono ?_
  rintro e w3 ⟨rfl, hb⟩
  have HB3 := hide (below_then (unhide HB2) hb)
  clear hb
  go_wp2
  go_ret
  exact ⟨w3.heap.size, rfl, (unhide HB3).size, heap_alloc_new w3 _, below_then (unhide HB3) (below_alloc w3 _)⟩
theorem isLonely_any (v : Value) (w : World) : Calls Tryz.prog 153 #[.agg #[.bool true, v]] w fun e w' => e = .returned (.bool false) ∧ Below w.heap.size w w' := by
  go_enter Tryz.func153, Tryz.ntmps153
  go_wp2
  go_ret
  exact ⟨rfl, below_alloc _ _⟩
/-- one root stays one root -/
theorem crowned_any (g n : Nat) (w : World) : Calls Tryz.prog 180 #[.agg #[.slice (some ⟨g, 0, none⟩) 1 1, .int .i64 0, .int .i64 (n : Int)]] w fun e w' => e = .returned (.agg #[.slice (some ⟨g, 0, none⟩) 1 1, .int .i64 0, .int .i64 (n : Int)]) ∧ Below w.heap.size w w' := by
  go_enter Tryz.func180, Tryz.ntmps180
  go_wp2
  refine wp_loop_rounds 1 ?_
  rw [rounds_succ]
  go_wp2
  refine bodyPost_ret (v := .agg #[.slice (some ⟨g, 0, none⟩) 1 1, .int .i64 0, .int .i64 (n : Int)]) ?_ rfl ⟨rfl, ?_⟩
  · rw [results_cell rfl]
    go_simp <;> rfl
  · exact below_then (below_alloc _ _) (below_alloc _ _)
end Go.Proofs.YtdelobaiicoogaaGreatDoor

/- What a maker without a way answers: how tall, how bushy; what a leaf's draft becomes. -/
namespace Go.Proofs.YtdelobaiicoogaaGreatDoor
open Go.ChangeShapes Go.WideShapes Go.ChangeAt Go.RowKit
attribute [local go_sem] Oper.semAt_some

theorem levels_any (M : Nat) (w : World) (h5 : w.cell? ⟨M, 5, none⟩ = some (.slice none 0 0)) : Calls Tryz.prog 179 #[.pointer (some ⟨M, 0, none⟩)] w fun e w' => e = .returned (.int .i64 1) ∧ w' = w := by
  go_enter Tryz.func179, Tryz.ntmps179
  go_wp2
  go_ret
  exact ⟨rfl, rfl⟩
theorem isTall_any (M : Nat) (w : World) (h5 : w.cell? ⟨M, 5, none⟩ = some (.slice none 0 0)) : Calls Tryz.prog 147 #[.pointer (some ⟨M, 0, none⟩)] w fun e w' => e = .returned (.bool false) ∧ w' = w := by
  have H := hide (levels_any M w h5)
  clear h5
  go_enter Tryz.func147, Tryz.ntmps147
  go_wp2_with (go_at_call 179; refine (unhide H).mono ?_; rintro e w ⟨rfl, rfl⟩)
  go_ret
  exact ⟨rfl, rfl⟩
theorem indexNone_any (f : Value) (w : World) : Calls Tryz.prog 192 #[.slice none 0 0, f] w fun e w' => e = .returned (.int .i64 (-1)) ∧ w' = w := by
  go_enter Tryz.func192, Tryz.ntmps192
  go_wp2
  refine wp_loop_rounds 1 ?_
  rw [rounds_succ]
  go_wp2
  go_ret
  exact ⟨rfl, rfl⟩
theorem containsNone_any (f : Value) (w : World) : Calls Tryz.prog 150 #[.slice none 0 0, f] w fun e w' => e = .returned (.bool false) ∧ w' = w := by
  have H := hide (indexNone_any f w)
  go_enter Tryz.func150, Tryz.ntmps150
  go_wp2_with (go_at_call 192; refine (unhide H).mono ?_; rintro e w ⟨rfl, rfl⟩)
  go_ret
  exact ⟨rfl, rfl⟩
theorem isBushy_any (M : Nat) (w : World) (h5 : w.cell? ⟨M, 5, none⟩ = some (.slice none 0 0)) : Calls Tryz.prog 115 #[.pointer (some ⟨M, 0, none⟩)] w fun e w' => e = .returned (.bool true) ∧ w' = w := by
  have H := hide (isTall_any M w h5)
  have H2 := hide (fun f => containsNone_any f w)
  go_enter Tryz.func115, Tryz.ntmps115
  go_wp2_with (first
    | (go_at_call 147; refine (unhide H).mono ?_; rintro e w ⟨rfl, rfl⟩)
    | (go_at_call 150; refine (unhide H2 _).mono ?_; rintro e w ⟨rfl, rfl⟩))
  go_ret
  exact ⟨rfl, rfl⟩
/-- leafOf -/
theorem leafOf_any (its : List L6.It) (ai : Option Addr) (ci : Nat) (w : World) (hr : L6.Row itV w ai its) (hl : its.length ≤ 1100) :
    Calls Tryz.prog 187 #[.slice ai its.length ci] w fun e w' => ∃ v, e = .returned (.agg #[.bool true, v]) ∧ OwnD w.heap.size w' v its ∧ Below w.heap.size w w' := by
  have b1 := below_alloc w (.cells #[.bool false, .slice none 0 0] 190)
  have HD := hide (draftOf_leaf true its ai ci none 0 _ (hr.grow b1) hl)
  have HN := hide (heap_alloc_new w (.cells #[.bool false, .slice none 0 0] 190))
  have HB := hide b1
  clear b1 hr hl
  go_enter Tryz.func187, Tryz.ntmps187
  go_wp2_with fail
  have HLT : Hid (w.heap.size < (w.alloc (.cells #[.bool false, .slice none 0 0] 190)).heap.size) := (Array.getElem?_eq_some_iff.1 (unhide HN)).1
  generalize w.alloc (.cells #[.bool false, .slice none 0 0] 190) = w1 at *
  refine (unhide HD).mono ?_
  rintro e w2 ⟨v, rfl, ho, hb⟩
  obtain ⟨va, vc, rfl⟩ := L6.ownsRow_form ho
  have hn := (hb.block _ (unhide HLT)).trans (unhide HN)
  obtain ⟨hc, hf⟩ := blk_facts hn
  have c0 := hc 0 _ rfl
  have c1 := hc 1 _ rfl
  have HO := hide ho
  have HB2 := hide (below_then (unhide HB) hb)
  clear hc hn ho hb
  go_wp2
  refine bodyPost_ret (v := .agg #[.bool true, .slice va its.length vc]) ?_ rfl ?_
  · rw [results_cell rfl]
    go_simp <;> rfl
  · have ho := unhide HO
    have hl := unhide HLT
    refine ⟨_, rfl, ?_, L6.below_store (L6.below_store (unhide HB2) w.heap.size 0 _ (Nat.le_refl _)) w.heap.size 1 _ (Nat.le_refl _)⟩
    exact L6.ownsRow_base (ownsRow_setCell_other (ownsRow_setCell_other ho (fun e => by have := (World.ownsRow.lt ho _ e).1; simp only at this; omega) _) (fun e => by have := (World.ownsRow.lt ho _ e).1; simp only at this; omega) _) (Nat.le_of_lt hl)
end Go.Proofs.YtdelobaiicoogaaGreatDoor
