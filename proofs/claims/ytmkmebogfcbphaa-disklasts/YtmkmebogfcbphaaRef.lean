/- The document's disk in memory: what is asked of it, its power, a write. -/
import Derived.Test.YtmkmebogfcbphaaNew
namespace Go.Proofs.Ytmkmebogfcbphaa
open Go.ChangeShapes Go.WideShapes Go.ChangeAt Go.RowKit

def strs (l : List ByteArray) : List Value := l.map Value.string

structure RefAt (w : World) (r : Nat) (m : Dk) (ov pv : Value) : Prop where
  blk : w.heap[r]? = some (.cells #[ov, pv, .int .i64 m.left, .bool m.gone] 58 (0, 0))
  old : w.ownsRow 0 9 1 ov m.old.length (strs m.old)
  op : w.ownsRow 0 82 2 pv m.op.length (opCells m.op)
  ok : Ok m

def rfOf (r : Nat) (ov pv : Value) : List Nat := r :: (ov.ownBlock.toList ++ pv.ownBlock.toList)
def IsRef (w : World) (r : Nat) (m : Dk) (fp : List Nat) : Prop := ∃ ov pv, RefAt w r m ov pv ∧ fp = rfOf r ov pv
def RTurned (w w' : World) (r : Nat) (m' : Dk) (fp : List Nat) : Prop := ∃ fp', IsRef w' r m' fp' ∧ Moves fp w w' ∧ ∀ x ∈ fp', x ∈ fp ∨ w.heap.size ≤ x

variable {w w' : World} {r : Nat} {m : Dk} {ov pv : Value}

theorem RefAt.cell0 (h : RefAt w r m ov pv) : w.cell? ⟨r, 0, none⟩ = some ov := by simp [World.cell?, h.blk]
theorem RefAt.cell1 (h : RefAt w r m ov pv) : w.cell? ⟨r, 1, none⟩ = some pv := by simp [World.cell?, h.blk]
theorem RefAt.cell2 (h : RefAt w r m ov pv) : w.cell? ⟨r, 2, none⟩ = some (.int .i64 m.left) := by simp [World.cell?, h.blk]
theorem RefAt.cell3 (h : RefAt w r m ov pv) : w.cell? ⟨r, 3, none⟩ = some (.bool m.gone) := by simp [World.cell?, h.blk]
theorem RefAt.free (h : RefAt w r m ov pv) (i : Nat) : w.frozen? ⟨r, i, none⟩ = false := by simp [World.frozen?, h.blk]
theorem RefAt.rlt (h : RefAt w r m ov pv) : r < w.heap.size := (Array.getElem?_eq_some_iff.1 h.blk).1
theorem RefAt.no (h : RefAt w r m ov pv) : ov.ownBlock ≠ some r := by
  intro e
  obtain ⟨cur, h1⟩ := ownsRow_kind h.old e
  rw [h.blk] at h1
  simp at h1
theorem RefAt.np (h : RefAt w r m ov pv) : pv.ownBlock ≠ some r := by
  intro e
  obtain ⟨cur, h1⟩ := ownsRow_kind h.op e
  rw [h.blk] at h1
  simp at h1
theorem RefAt.nn (h : RefAt w r m ov pv) : ∀ g, ov.ownBlock = some g → pv.ownBlock ≠ some g := by
  intro g e1 e2
  obtain ⟨cur, h1⟩ := ownsRow_kind h.old e1
  obtain ⟨cur2, h2⟩ := ownsRow_kind h.op e2
  rw [h2] at h1
  simp at h1
theorem RefAt.lt (h : RefAt w r m ov pv) : ∀ x ∈ rfOf r ov pv, x < w.heap.size := by
  intro x hx
  simp [rfOf] at hx
  rcases hx with rfl | hx | hx
  · exact h.rlt
  · exact (h.old.lt x hx).2
  · exact (h.op.lt x hx).2
theorem RefAt.same (h : RefAt w r m ov pv) (hs : ∀ x ∈ rfOf r ov pv, w'.heap[x]? = w.heap[x]?) : RefAt w' r m ov pv :=
  ⟨(hs r (by simp [rfOf])).trans h.blk, ownsRow_same h.old (fun g hg => hs g (by simp [rfOf, hg])), ownsRow_same h.op (fun g hg => hs g (by simp [rfOf, hg])), h.ok⟩
theorem IsRef.keep {fp fq : List Nat} (h : IsRef w r m fp) (hm : Moves fq w w') (hd : ∀ x ∈ fp, x ∉ fq) : IsRef w' r m fp := by
  obtain ⟨ov, pv, h, rfl⟩ := h
  exact ⟨ov, pv, h.same (fun x hx => hm.block x (h.lt x hx) (hd x hx)), rfl⟩
theorem IsRef.grow {fp : List Nat} (h : IsRef w r m fp) (hm : Below w.heap.size w w') : IsRef w' r m fp :=
  h.keep (Moves.of_below [] hm) (fun _ _ => List.not_mem_nil)
theorem IsRef.lt {fp : List Nat} (h : IsRef w r m fp) : ∀ x ∈ fp, x < w.heap.size := by
  obtain ⟨ov, pv, h, rfl⟩ := h
  exact h.lt
theorem IsRef.stays {fp : List Nat} (h : IsRef w r m fp) : RTurned w w r m fp := ⟨fp, h, Moves.refl _ _, fun _ hx => .inl hx⟩

/-- another power -/
theorem RefAt.left (h : RefAt w r m ov pv) (l : Int) (hok : Ok { m with left := l }) : RefAt (w.setCell ⟨r, 2, none⟩ (.int .i64 l)) r { m with left := l } ov pv := by
  have hm : Moves [r] w (w.setCell ⟨r, 2, none⟩ (.int .i64 l)) := Moves.set w r 2 _ (by simp)
  refine ⟨?_, ownsRow_same h.old (fun g hg => hm.block g (h.old.lt g hg).2 (by simp; intro e; subst e; exact h.no hg)), ownsRow_same h.op (fun g hg => hm.block g (h.op.lt g hg).2 (by simp; intro e; subst e; exact h.np hg)), hok⟩
  simp [World.setCell, Array.getElem?_modify, h.blk]
theorem RefAt.goes (h : RefAt w r m ov pv) : RefAt (w.setCell ⟨r, 3, none⟩ (.bool true)) r { m with gone := true } ov pv := by
  have hm : Moves [r] w (w.setCell ⟨r, 3, none⟩ (.bool true)) := Moves.set w r 3 _ (by simp)
  refine ⟨?_, ownsRow_same h.old (fun g hg => hm.block g (h.old.lt g hg).2 (by simp; intro e; subst e; exact h.no hg)), ownsRow_same h.op (fun g hg => hm.block g (h.op.lt g hg).2 (by simp; intro e; subst e; exact h.np hg)), ⟨h.ok.old, h.ok.op, h.ok.left, h.ok.many⟩⟩
  simp [World.setCell, Array.getElem?_modify, h.blk]

/-! Power -/
set_option maxHeartbeats 1000000 in
set_option maxRecDepth 20000 in
theorem rpower_any (x : Int) (hx : x ≤ 9223372036854775807) (fp : List Nat) (w : World) (h0 : IsRef w r m fp) :
    Calls Try.prog 30 #[.pointer (some ⟨r, 0, none⟩), .int .i64 x] w fun e w' => e = .returned (.tuple #[]) ∧ RTurned w w' r (powerM m x) fp := by
  have h0' := h0.stays
  obtain ⟨ov, pv, h, rfl⟩ := h0
  have c2 := h.cell2
  have c3 := h.cell3
  have f2 := h.free 2
  have hok := ok_power h.ok x hx
  unfold powerM at hok ⊢
  cases hg : m.gone with
  | true =>
    rw [hg] at c3
    have H0 := hide h0'
    clear h0' hok h hx
    go_enter Try.func30, Try.ntmps30
    go_wp2
    go_end0
    exact ⟨rfl, unhide H0⟩
  | false =>
    rw [hg] at c3 hok
    simp only [Bool.false_eq_true, if_false] at hok ⊢
    have hl := h.left (max x (-1)) (by rw [hg]; exact hok)
    rw [hg] at hl
    have HL := hide hl
    clear h0' hok hx hl
    have H := hide h
    clear h
    go_enter Try.func30, Try.ntmps30
    go_wp2
    go_end0
    exact ⟨rfl, _, ⟨ov, pv, unhide HL, rfl⟩, Moves.set _ _ _ _ (by simp [rfOf]), fun _ hx => .inl hx⟩

/-! the power's calls -/
set_option maxHeartbeats 1000000 in
set_option maxRecDepth 20000 in
theorem rspend_now (w : World) (h : RefAt w r m ov pv) (hl : m.left = 0) :
    Calls Try.prog 42 #[.pointer (some ⟨r, 0, none⟩)] w fun e w' => e = .returned (.bool false) ∧ RefAt w' r { m with gone := true } ov pv ∧ Moves [r] w w' := by
  have c2 := h.cell2
  rw [hl] at c2
  have c3 := h.cell3
  have f3 := h.free 3
  have HG := hide h.goes
  clear h
  go_enter Try.func42, Try.ntmps42
  go_wp2
  go_ret
  exact ⟨rfl, unhide HG, Moves.set _ _ _ _ (by simp)⟩
set_option maxHeartbeats 1000000 in
set_option maxRecDepth 20000 in
theorem rspend_any (w : World) (h : RefAt w r m ov pv) (hl : m.left ≠ 0) :
    Calls Try.prog 42 #[.pointer (some ⟨r, 0, none⟩)] w fun e w' => e = .returned (.bool true) ∧ RefAt w' r { m with left := spent m.left } ov pv ∧ Moves [r] w w' := by
  have c2 := h.cell2
  have f2 := h.free 2
  by_cases hp : 0 < m.left
  · have hw : IntKind.i64.wrap (m.left - 1) = m.left - 1 := by have := h.ok.left; rw [IntKind.wrap_i64]; omega
    have e1 : spent m.left = m.left - 1 := by unfold spent; rw [if_pos hp]
    rw [e1]
    have hl2 := h.left (m.left - 1) ⟨h.ok.old, h.ok.op, by have := h.ok.left; show -1 ≤ m.left - 1 ∧ m.left - 1 ≤ 9223372036854775807; omega, h.ok.many⟩
    have HL := hide hl2
    clear h hl2 e1
    go_enter Try.func42, Try.ntmps42
    go_wp2
    go_ret
    exact ⟨rfl, unhide HL, Moves.set _ _ _ _ (by simp)⟩
  · have e1 : spent m.left = m.left := by unfold spent; rw [if_neg hp]
    rw [e1]
    have H := hide h
    clear h e1
    go_enter Try.func42, Try.ntmps42
    go_wp2
    go_ret
    exact ⟨rfl, unhide H, Moves.refl _ _⟩
end Go.Proofs.Ytmkmebogfcbphaa
