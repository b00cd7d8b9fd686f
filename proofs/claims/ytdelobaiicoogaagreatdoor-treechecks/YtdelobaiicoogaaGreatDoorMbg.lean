/- Texts that the proof needs, one behind the other. -/
import Derived.Test.YtdelobaiicoogaaGreatDoorMaz
import Derived.Test.YtdelobaiicoogaaGreatDoorMbf
import Derived.Test.YtdelobaiicoogaaGreatDoorMay
import Derived.Test.YtdelobaiicoogaaGreatDoorMau
import Derived.Test.YtdelobaiicoogaaGreatDoorMad
import Derived.Deep.RegionHeld3
/- The document's look at a tree, in memory. -/
namespace Go.Proofs.YtdelobaiicoogaaGreatDoor
open Go.ChangeShapes Go.WideShapes Go.ChangeAt Go.RowKit

def metV (m : List Nat) : List Value := (List.range 4096).map fun i => Value.bool (decide (i ∈ m))
theorem metV_len (m : List Nat) : (metV m).length = 4096 := by unfold metV; rw [List.length_map, List.length_range]
theorem metV_at (m : List Nat) {x : Nat} (hx : x < 4096) : (metV m)[x]? = some (.bool (decide (x ∈ m))) := by
  unfold metV
  rw [List.getElem?_map, List.getElem?_range hx]
  rfl
theorem metV_set (m : List Nat) {x : Nat} (hx : x < 4096) : (metV m).set x (.bool true) = metV (x :: m) := by
  apply List.ext_getElem?
  intro i
  rw [List.getElem?_set]
  by_cases hi : i < 4096
  · rw [metV_at _ hi]
    split
    · rename_i e
      subst e
      rw [if_pos (by rw [metV_len]; exact hx), metV_at _ hx, decide_eq_true (List.mem_cons_self (a := x) (l := m))]
    · rename_i e
      rw [metV_at _ hi]
      have e' : ¬ i = x := fun h => e h.symm
      have e2 : decide (i ∈ x :: m) = decide (i ∈ m) := by
        apply decide_eq_decide.2
        rw [List.mem_cons]
        exact ⟨fun h => h.resolve_left e', .inr⟩
      rw [e2]
  · have h1 : (metV (x :: m))[i]? = none := List.getElem?_eq_none (by rw [metV_len]; omega)
    have h2 : (metV m)[i]? = none := List.getElem?_eq_none (by rw [metV_len]; omega)
    rw [h1, h2, if_neg (by omega)]
theorem metV_nil : metV [] = List.replicate 4096 (.bool false) := by
  apply List.ext_getElem?
  intro i
  rw [List.getElem?_replicate]
  by_cases hi : i < 4096
  · rw [metV_at _ hi, if_pos hi]
    rfl
  · rw [if_neg hi]
    exact List.getElem?_eq_none (by rw [metV_len]; omega)
def lookV (q : Nat) (st : Sr) : List Value := .pointer (some ⟨q, 0, none⟩) :: (metV st.met ++ [.int .i64 (st.lv : Int)])
/-- the look in memory -/
def LookAt (w : World) (b q : Nat) (st : Sr) : Prop := w.heap[b]? = some (.cells (lookV q st).toArray 112 (0, 0))
variable {w w' : World} {b q : Nat} {st : Sr}
theorem LookAt.cell {i : Nat} {v : Value} (H : LookAt w b q st) (hv : (lookV q st)[i]? = some v) : w.cell? ⟨b, i, none⟩ = some v := by
  unfold LookAt at H
  simp only [World.cell?, H]
  simpa using hv
theorem LookAt.cell0 (H : LookAt w b q st) : w.cell? ⟨b, 0, none⟩ = some (.pointer (some ⟨q, 0, none⟩)) := H.cell rfl
theorem lookV_met {x : Nat} (hx : x < 4096) : (lookV q st)[1 + x]? = some (.bool (decide (x ∈ st.met))) := by
  unfold lookV
  rw [Nat.add_comm, List.getElem?_cons_succ, List.getElem?_append_left (by rw [metV_len]; exact hx), metV_at _ hx]
theorem lookV_lv : (lookV q st)[4097]? = some (.int .i64 (st.lv : Int)) := by
  unfold lookV
  rw [show (4097 : Nat) = 4096 + 1 from rfl, List.getElem?_cons_succ, List.getElem?_append_right (by rw [metV_len]; exact Nat.le_refl _), metV_len]
  rfl
theorem LookAt.cellM (H : LookAt w b q st) {x : Nat} (hx : x < 4096) : w.cell? ⟨b, 1 + x, none⟩ = some (.bool (decide (x ∈ st.met))) := H.cell (lookV_met hx)
theorem LookAt.cellD (H : LookAt w b q st) : w.cell? ⟨b, 4097, none⟩ = some (.int .i64 (st.lv : Int)) := H.cell lookV_lv
theorem LookAt.free (H : LookAt w b q st) (i : Nat) : w.frozen? ⟨b, i, none⟩ = false := by
  unfold LookAt at H
  simp [World.frozen?, H]
theorem LookAt.lt (H : LookAt w b q st) : b < w.heap.size := (Array.getElem?_eq_some_iff.1 H).1
theorem LookAt.grow (H : LookAt w b q st) (hb : Below w.heap.size w w') : LookAt w' b q st := (hb.block b H.lt).trans H
theorem LookAt.kd (H : LookAt w b q st) : Kd w b 112 := ⟨_, H⟩
theorem lookV_setM (d : Nat) {x : Nat} (hx : x < 4096) : (lookV q st).set (1 + x) (.bool true) = lookV q ⟨x :: st.met, st.lv, d⟩ := by
  unfold lookV
  rw [Nat.add_comm, List.set_cons_succ, List.set_append_left _ _ (by rw [metV_len]; exact hx), metV_set _ hx]
theorem lookV_setD (d v : Nat) : (lookV q st).set 4097 (.int .i64 (v : Int)) = lookV q ⟨st.met, v, d⟩ := by
  unfold lookV
  rw [show (4097 : Nat) = 4096 + 1 from rfl, List.set_cons_succ, List.set_append_right _ _ (by rw [metV_len]; exact Nat.le_refl _), metV_len]
  rfl
theorem LookAt.set {i : Nat} {v : Value} {st' : Sr} (H : LookAt w b q st) (hs : (lookV q st).set i v = lookV q st') : LookAt (w.setCell ⟨b, i, none⟩ v) b q st' := by
  unfold LookAt at H ⊢
  rw [← hs]
  simp [World.setCell, Array.getElem?_modify, H]
theorem LookAt.setM (H : LookAt w b q st) (d : Nat) {x : Nat} (hx : x < 4096) : LookAt (w.setCell ⟨b, 1 + x, none⟩ (.bool true)) b q ⟨x :: st.met, st.lv, d⟩ := H.set (lookV_setM d hx)
theorem LookAt.setD (H : LookAt w b q st) (d v : Nat) : LookAt (w.setCell ⟨b, 4097, none⟩ (.int .i64 (v : Int))) b q ⟨st.met, v, d⟩ := H.set (lookV_setD d v)
/-- how deep it came is no part of it -/
theorem LookAt.any (H : LookAt w b q st) (d : Nat) : LookAt w b q ⟨st.met, st.lv, d⟩ := H
/-- the document's heap stays while the look turns -/
theorem IsRh.look {h : Hp} {F : List Nat} (R : IsRh w q h F) (H : LookAt w b q st) (h0 : 0 < b) (hm : Moves [b] w w') : IsRh w' q h F := by
  obtain ⟨r, a, g, fr, kv, R, rfl⟩ := R
  have hb : b ∉ rfoot q a g fr := by
    intro hx
    obtain ⟨t, ht, hk⟩ := R.kinds b hx
    have := hk.one H.kd
    subst this
    exact absurd ht (by decide)
  refine ⟨r, a, g, fr, kv, R.keep hm (fun x hx => by simp at hx; subst hx; exact hb) (by simp; omega) (fun x hx _ h3 => ?_), rfl⟩
  simp at hx
  subst hx
  exact absurd (h3.one H.kd) (by decide)
set_option maxRecDepth 100000 in
theorem buildLook (q : Nat) (w : World) : (Instr.build 112 #[(0, .pointer (some ⟨q, 0, none⟩))]).run Tryz.prog w = .ok (.agg (.pointer (some ⟨q, 0, none⟩) :: (List.replicate 4096 (.bool false) ++ [.int .i64 0])).toArray) w := by kernel_rfl
set_option maxRecDepth 100000 in
theorem boxLook (cs : List Value) (w : World) : (Instr.box 112 (.agg (cs).toArray)).run Tryz.prog w = .ok (.pointer (some ⟨w.heap.size, 0, none⟩)) (w.alloc (.cells cs.toArray 112)) := by kernel_rfl
theorem wp_buildLook {ops : Array Oper} {rest : List Oper} {o : Oper} {a : Act} {Q : Exit → Act → World → Prop} {w : World} {x : Nat}
    (hg : o.guard = none) (o0 : Operand) (hop : o.op = Op.build 112 #[(0, o0)]) (h0 : a.eval o0 = .pointer (some ⟨x, 0, none⟩))
    (h : ∀ v, v = .agg (lookV x ⟨[], 0, 0⟩).toArray → wpList Tryz.prog ops Q rest (a.put o.dst v) w) : wpList Tryz.prog ops Q (o :: rest) a w := by
  refine wpList_plain hg fun K' hK' => ?_
  have hr := buildLook x w
  unfold Oper.wp
  simp only [execOp, hop, h0, List.map_toArray, List.map_cons, List.map_nil, Sem.run_bind, hr, Result.andThen_ok]
  refine hK' _ _ (h _ ?_)
  unfold lookV
  rw [metV_nil]
  rfl
theorem wp_boxLook {ops : Array Oper} {rest : List Oper} {o : Oper} {a : Act} {Q : Exit → Act → World → Prop} {w : World} {cs : List Value}
    (hg : o.guard = none) (o0 : Operand) (hop : o.op = Op.box 112 o0) (h0 : a.eval o0 = .agg cs.toArray)
    (h : ∀ w', w' = w.alloc (.cells cs.toArray 112) → wpList Tryz.prog ops Q rest (a.put o.dst (.pointer (some ⟨w.heap.size, 0, none⟩))) w') : wpList Tryz.prog ops Q (o :: rest) a w := by
  refine wpList_plain hg fun K' hK' => ?_
  have hr := boxLook cs w
  unfold Oper.wp
  simp only [execOp, hop, h0, Sem.run_bind, hr, Result.andThen_ok]
  exact hK' _ _ (h _ rfl)
theorem LookAt.new (w : World) (q : Nat) : LookAt (w.alloc (.cells (lookV q ⟨[], 0, 0⟩).toArray 112)) w.heap.size q ⟨[], 0, 0⟩ := heap_alloc_new _ _
end Go.Proofs.YtdelobaiicoogaaGreatDoor

/- The document's example: awake; a nil heap. -/
namespace Go.Proofs.YtdelobaiicoogaaGreatDoor
open Go.ChangeShapes Go.WideShapes Go.ChangeAt Go.RowKit

/-- nothing that was there has turned: F is new -/
theorem turned_below {w0 w w' : World} {p d : Nat} {h : Hp} {c : Nat} {F : List Nat} (h0 : Below w0.heap.size w0 w) (k : HTurned w w' p d h c F) (hF : ∀ x ∈ F, w0.heap.size ≤ x) : ∃ F', IsHeap w' p d h c F' ∧ Below w0.heap.size w0 w' ∧ ∀ x ∈ F', w0.heap.size ≤ x := by
  have hb := k.below h0 hF h0.size
  obtain ⟨F', k1, k2, k3⟩ := k
  refine ⟨F', k1, hb, fun x hx => ?_⟩
  rcases k3 x hx with h1 | h1
  · exact hF x h1
  · exact Nat.le_trans h0.size h1
end Go.Proofs.YtdelobaiicoogaaGreatDoor

/- The law's calls in memory; the node of a call that puts. -/
namespace Go.Proofs.YtdelobaiicoogaaGreatDoor
open Go.ChangeShapes Go.WideShapes Go.ChangeAt Go.RowKit

structure Cl where
  kind : Int
  n : Int
  kids : List Int
  nd : L6.Nd
/-- a call's cells -/
def clV (c : Cl) (a1 : Option Addr) (c1 : Nat) (ai : Option Addr) (ci : Nat) (ak : Option Addr) (ck : Nat) : List Value :=
  [.int .i64 c.kind, .int .i64 c.n, .slice a1 c.kids.length c1, .bool c.nd.leaf, .slice ai c.nd.its.length ci, .slice ak c.nd.kds.length ck]
/-- below B -/
def Under (B : Nat) (a : Option Addr) : Prop := ∀ x, a = some x → x.block < B
/-- what a call leads to, below B -/
structure ClAt (B : Nat) (w : World) (c : Cl) (a1 ai ak : Option Addr) : Prop where
  ints : Irow w a1 c.kids
  has : L6.Has w c.nd ai ak
  u1 : c.kids = [] ∨ Under B a1
  ui : c.nd.its = [] ∨ Under B ai
  uk : c.nd.kds = [] ∨ Under B ak
  few : c.kids.length ≤ maxLen ∧ c.nd.its.length ≤ maxLen ∧ c.nd.kds.length ≤ maxLen
  n64 : L5.I64 c.n ∧ L5.I64 c.kind
theorem ClAt.grow {B : Nat} {w w' : World} {c : Cl} {a1 ai ak : Option Addr} (h : ClAt B w c a1 ai ak) (hb : Below w.heap.size w w') : ClAt B w' c a1 ai ak := ⟨h.ints.grow hb, h.has.grow hb, h.u1, h.ui, h.uk, h.few, h.n64⟩
/-- calls in a row -/
def Cls (B : Nat) (w : World) (a : Option Addr) (l : List Cl) : Prop := l = [] ∨ ∃ b off, a = some ⟨b, off, none⟩ ∧ b < B ∧ ∀ i c, l[i]? = some c → ∃ a1 c1 ai ci ak ck, ClAt B w c a1 ai ak ∧ ∀ j v, (clV c a1 c1 ai ci ak ck)[j]? = some v → w.cell? ⟨b, off + i * 6 + j, none⟩ = some v
theorem cell_base {B : Nat} {w w' : World} {a : Addr} {v : Value} (h : w.cell? a = some v) (ha : a.block < B) (hb : Below B w w') : w'.cell? a = some v := (hb.cell ha).trans h

end Go.Proofs.YtdelobaiicoogaaGreatDoor

/- long: more than is played? -/
namespace Go.Proofs.YtdelobaiicoogaaGreatDoor
open Go.ChangeShapes Go.WideShapes Go.ChangeAt Go.RowKit

def Short (l : List Cl) : Prop := l.length ≤ 100 ∧ ∀ c ∈ l, c.kids.length ≤ 60 ∧ L6.Few c.nd
theorem Cls.grow {B : Nat} {w w' : World} {a : Option Addr} {l : List Cl} (h : Cls B w a l) (hb : Below B w w') (hr : ∀ c a1 ai ak, ClAt B w c a1 ai ak → ClAt B w' c a1 ai ak) : Cls B w' a l := by
  rcases h with h | ⟨b, off, e, hbb, hh⟩
  · exact .inl h
  · refine .inr ⟨b, off, e, hbb, fun i c hc => ?_⟩
    obtain ⟨a1, c1, ai, ci, ak, ck, h1, h2⟩ := hh i c hc
    exact ⟨a1, c1, ai, ci, ak, ck, hr c a1 ai ak h1, fun j v hv => cell_base (h2 j v hv) hbb hb⟩
theorem Irow.base {B : Nat} {w w' : World} {a : Option Addr} {l : List Int} (h : Irow w a l) (hu : l = [] ∨ Under B a) (hb : Below B w w') : Irow w' a l := by
  rcases hu with hu | hu
  · exact .inl hu
  rcases h with h | ⟨b, off, e, hh⟩
  · exact .inl h
  · exact .inr ⟨b, off, e, fun i x hx => cell_base (hh i x hx) (show b < B from hu ⟨b, off, none⟩ e) hb⟩
theorem Row.base {β : Type} {sv : β → Value} {B : Nat} {w w' : World} {a : Option Addr} {l : List (ByteArray × β)} (h : L6.Row sv w a l) (hu : l = [] ∨ Under B a) (hb : Below B w w') : L6.Row sv w' a l := by
  rcases hu with hu | hu
  · exact .inl hu
  rcases h with h | ⟨b, off, e, hh⟩
  · exact .inl h
  · exact .inr ⟨b, off, e, fun i x hx => ⟨cell_base (hh i x hx).1 (show b < B from hu ⟨b, off, none⟩ e) hb, cell_base (hh i x hx).2 (show b < B from hu ⟨b, off, none⟩ e) hb⟩⟩
theorem ClAt.base {B : Nat} {w w' : World} {c : Cl} {a1 ai ak : Option Addr} (h : ClAt B w c a1 ai ak) (hb : Below B w w') : ClAt B w' c a1 ai ak := ⟨h.ints.base h.u1 hb, ⟨Row.base h.has.1 h.ui hb, Row.base h.has.2 h.uk hb⟩, h.u1, h.ui, h.uk, h.few, h.n64⟩
theorem Cls.base {B : Nat} {w w' : World} {a : Option Addr} {l : List Cl} (h : Cls B w a l) (hb : Below B w w') : Cls B w' a l := h.grow hb (fun _ _ _ _ hc => hc.base hb)
theorem Cls.at {B : Nat} {w : World} {a : Option Addr} {l : List Cl} (h : Cls B w a l) {k : Nat} (hk : k < l.length) : ∃ b off, a = some ⟨b, off, none⟩ ∧ b < B ∧ ∃ a1 c1 ai ci ak ck, ClAt B w l[k] a1 ai ak ∧ w.cell? ⟨b, off + k * 6, none⟩ = some (.int .i64 l[k].kind) ∧ w.cell? ⟨b, off + k * 6 + 1, none⟩ = some (.int .i64 l[k].n) ∧ w.cell? ⟨b, off + k * 6 + 2, none⟩ = some (.slice a1 l[k].kids.length c1) ∧
    w.cell? ⟨b, off + k * 6 + 3, none⟩ = some (.bool l[k].nd.leaf) ∧ w.cell? ⟨b, off + k * 6 + 4, none⟩ = some (.slice ai l[k].nd.its.length ci) ∧ w.cell? ⟨b, off + k * 6 + 5, none⟩ = some (.slice ak l[k].nd.kds.length ck) := by
  rcases h with rfl | ⟨b, off, e, hbb, hh⟩
  · simp at hk
  · obtain ⟨a1, c1, ai, ci, ak, ck, h1, h2⟩ := hh k l[k] (List.getElem?_eq_getElem hk)
    exact ⟨b, off, e, hbb, a1, c1, ai, ci, ak, ck, h1, h2 0 _ rfl, h2 1 _ rfl, h2 2 _ rfl, h2 3 _ rfl, h2 4 _ rfl, h2 5 _ rfl⟩

end Go.Proofs.YtdelobaiicoogaaGreatDoor

/- The program's heap and the document's one side by side; a heap of the document's that is new; nodes that came in. -/
namespace Go.Proofs.YtdelobaiicoogaaGreatDoor
open Go.ChangeShapes Go.WideShapes Go.ChangeAt Go.RowKit

structure Both (B : Nat) (W w : World) (p d q : Nat) (h : Hp) (c : Nat) (F Fq : List Nat) : Prop where
  heap : IsHeap w p d h c F
  ref : IsRh w q h Fq
  bel : Below B W w
  hF : ∀ x ∈ F, B ≤ x
  hQ : ∀ x ∈ Fq, B ≤ x
  sz : B ≤ w.heap.size
variable {B : Nat} {W w w1 w2 : World} {p d q : Nat} {h h' : Hp} {c c' : Nat} {F Fq : List Nat}
theorem Both.grow (P : Both B W w p d q h c F Fq) (hb : Below w.heap.size w w1) : Both B W w1 p d q h c F Fq :=
  ⟨P.heap.grow hb, P.ref.grow hb, P.bel.trans (hb.mono P.sz), P.hF, P.hQ, Nat.le_trans P.sz hb.size⟩
theorem Both.mid (P : Both B W w p d q h c F Fq) (k1 : HTurned w w1 p d h' c' F) : IsRh w1 q h Fq := by
  obtain ⟨_, _, k2, _⟩ := k1
  exact P.ref.other P.heap k2
theorem Both.turn (P : Both B W w p d q h c F Fq) (k1 : HTurned w w1 p d h' c' F) (k2 : RhTurned w1 w2 q h' Fq) : ∃ F' Fq', Both B W w2 p d q h' c' F' Fq' := by
  have hm := P.mid k1
  obtain ⟨F1, h1, m1, f1⟩ := k1
  have hb1 := m1.below P.bel P.hF P.sz
  have hs1 : B ≤ w1.heap.size := Nat.le_trans P.sz m1.size
  obtain ⟨F2, h2, m2, f2⟩ := k2
  refine ⟨F1, F2, h1.other hm m2, h2, m2.below hb1 P.hQ hs1, fun x hx => ?_, fun x hx => ?_, Nat.le_trans hs1 m2.size⟩
  · rcases f1 x hx with h3 | h3
    · exact P.hF x h3
    · exact Nat.le_trans P.sz h3
  · rcases f2 x hx with h3 | h3
    · exact P.hQ x h3
    · exact Nat.le_trans hs1 h3
theorem rh_new {w w' : World} {r : Nat} {m : L3.Dk} {fr : List Nat} {g : Int} {p a b : Nat} (H : L3.IsRef w r m fr) (hT : L4.Tab w) (hp : ∀ x ∈ fr, 0 < x) (h0 : 0 < w.heap.size) (hg : ¬ g < 0) (hg2 : ¬ 1152921504606846976 < g) (hm : 8 ≤ m.old.length)
    (ha : L5.RefAt w' a b 2 (L5.newM 2 m.old.length)) (hq : w'.heap[p]? = some (.cells (.pointer (some ⟨r, 0, none⟩) :: .pointer (some ⟨a, 0, none⟩) :: .int .i64 g :: kz).toArray 74 (0, 0))) (hb : Below w.heap.size w w') (l1 : w.heap.size ≤ p) (l2 : w.heap.size ≤ a) (l3 : w.heap.size ≤ b) : IsRh w' p (newH m g) (rfoot p a b fr) := by
  refine ⟨r, a, b, fr, kz, ⟨hq, List.length_replicate, fun i v hv => ?_, ha, H.grow hb, ⟨by show 0 ≤ g; omega, by show g ≤ _; omega⟩, ?_, tab_keep hT (L5.Moves.of_below [] hb) List.not_mem_nil, by omega, by omega, by omega, hp⟩, rfl⟩
  · unfold kz at hv
    rw [List.getElem?_replicate] at hv
    split at hv
    · cases hv
      exact Ints.nil _
    · cases hv
  · show 2 + (L5.newM 2 m.old.length).length = m.old.length
    unfold L5.newM
    rw [List.length_replicate]
    omega
/-! nodes that came in -/
structure NdIn (B : Nat) (w : World) (n : L6.Nd) (ai ak : Option Addr) : Prop where
  has : L6.Has w n ai ak
  ui : n.its = [] ∨ Under B ai
  uk : n.kds = [] ∨ Under B ak
  few : n.its.length ≤ maxLen ∧ n.kds.length ≤ maxLen
def ndV (n : L6.Nd) (ai : Option Addr) (ci : Nat) (ak : Option Addr) (ck : Nat) : List Value := [.bool n.leaf, .slice ai n.its.length ci, .slice ak n.kds.length ck]
def Nds (B : Nat) (w : World) (a : Option Addr) (l : List L6.Nd) : Prop := l = [] ∨ ∃ b off, a = some ⟨b, off, none⟩ ∧ b < B ∧ ∀ i n, l[i]? = some n → ∃ ai ci ak ck, NdIn B w n ai ak ∧ ∀ j v, (ndV n ai ci ak ck)[j]? = some v → w.cell? ⟨b, off + i * 3 + j, none⟩ = some v
theorem NdIn.base {n : L6.Nd} {ai ak : Option Addr} (H : NdIn B w n ai ak) (hb : Below B w w1) : NdIn B w1 n ai ak :=
  ⟨⟨Row.base H.has.1 H.ui hb, Row.base H.has.2 H.uk hb⟩, H.ui, H.uk, H.few⟩
theorem Nds.at {a : Option Addr} {l : List L6.Nd} (H : Nds B w a l) (hb : Below B w w1) {k : Nat} (hk : k < l.length) : ∃ b off, a = some ⟨b, off, none⟩ ∧ ∃ ai ci ak ck, NdIn B w1 l[k] ai ak ∧ w1.cell? ⟨b, off + k * 3, none⟩ = some (.bool l[k].leaf) ∧ w1.cell? ⟨b, off + k * 3 + 1, none⟩ = some (.slice ai l[k].its.length ci) ∧ w1.cell? ⟨b, off + k * 3 + 2, none⟩ = some (.slice ak l[k].kds.length ck) := by
  rcases H with e | ⟨b, off, ha, hbb, H⟩
  · rw [e] at hk
    exact absurd hk (Nat.not_lt_zero _)
  · obtain ⟨ai, ci, ak, ck, h1, h2⟩ := H k l[k] (List.getElem?_eq_getElem hk)
    refine ⟨b, off, ha, ai, ci, ak, ck, h1.base hb, ?_, ?_, ?_⟩
    · exact (hb.cell (p := ⟨b, off + k * 3, none⟩) hbb).trans (h2 0 _ rfl)
    · exact (hb.cell (p := ⟨b, off + k * 3 + 1, none⟩) hbb).trans (h2 1 _ rfl)
    · exact (hb.cell (p := ⟨b, off + k * 3 + 2, none⟩) hbb).trans (h2 2 _ rfl)
end Go.Proofs.YtdelobaiicoogaaGreatDoor

/- Keys in order: what is needed of them to hold a tree's bounds. -/
namespace Go.Proofs.YtdelobaiicoogaaGreatDoor
theorem less_asym {a b : ByteArray} (h : L6.less a b = true) : L6.less b a = false := by
  have := L6.leq_flip a b
  have h1 : Op.bytesLess a.toList b.toList = true := h
  rw [h1] at this
  simpa using this
theorem less_tri {a b : ByteArray} (h1 : L6.less a b = false) (h2 : L6.less b a = false) : a = b := by
  have := L6.leq_flip a b
  have h3 : Op.bytesLess a.toList b.toList = false := h1
  rw [h3, h2] at this
  have h4 : a.toList = b.toList := by simpa using this
  apply ByteArray.ext
  apply Array.toList_inj.1
  rw [← ByteArray.toList_eq, ← ByteArray.toList_eq]
  exact h4
/-- the greater one, asked the other way round -/
theorem maxB_alt (lo k : ByteArray) : (if L6.less k lo = true then lo else k) = maxB lo k := by
  unfold maxB
  by_cases h1 : L6.less k lo = true
  · rw [if_pos h1, less_asym h1]
    rfl
  · rw [if_neg h1]
    by_cases h2 : L6.less lo k = true
    · rw [if_pos h2]
    · rw [if_neg h2]
      exact less_tri (by simpa using h1) (by simpa using h2)
theorem less_empty (a : ByteArray) : L6.less a ⟨#[]⟩ = false := by
  show Op.bytesLess a.toList (⟨#[]⟩ : ByteArray).toList = false
  have e : (⟨#[]⟩ : ByteArray).toList = [] := by rw [ByteArray.toList_eq]
  rw [e]
  cases a.toList <;> rfl
theorem rise_next {β : Type} {may : ByteArray × β → Bool} : ∀ (l : List (ByteArray × β)) (o : Option ByteArray) (k : Nat) (x : ByteArray × β), L6.rise may o l = true → l[k + 1]? = some x → x.1 ≠ ⟨#[]⟩
  | [], _, _, _, _, h => by simp at h
  | [a], _, k, _, _, h => by simp at h
  | a :: b :: r, o, k, x, h, hx => by
    have h1 : L6.rise may (some a.1) (b :: r) = true := by
      cases o with
      | none => simp only [L6.rise, Bool.and_eq_true] at h ⊢; exact h.2
      | some q => simp only [L6.rise, Bool.and_eq_true] at h ⊢; exact h.2
    cases k with
    | zero =>
      simp at hx
      subst hx
      simp only [L6.rise, Bool.and_eq_true] at h1
      intro e
      rw [e, less_empty] at h1
      exact absurd h1.1.2 (by decide)
    | succ k =>
      exact rise_next (b :: r) (some a.1) k x h1 (by simpa using hx)
/-- but for the first one no kid's key is empty -/
theorem kid_key {n : L6.Nd} (h : L6.rightB n = true) (hl : n.leaf = false) {k : Nat} {x : L6.Kd} (hx : n.kds[k + 1]? = some x) : x.1 ≠ ⟨#[]⟩ := by
  unfold L6.rightB at h
  rw [hl] at h
  simp only [Bool.false_eq_true, if_false, Bool.and_eq_true] at h
  exact rise_next _ _ _ _ h.2 hx
theorem leaf_its {n : L6.Nd} (h : L6.rightB n = true) (hl : n.leaf = true) : n.its ≠ [] ∧ n.kds = [] := by
  unfold L6.rightB at h
  rw [hl] at h
  simp only [if_true, Bool.and_eq_true] at h
  refine ⟨fun e => ?_, List.isEmpty_iff.1 h.1.1⟩
  rw [e] at h
  exact absurd h.1.2 (by decide)
end Go.Proofs.YtdelobaiicoogaaGreatDoor

/- Whether nothing was met below a place that isn't right: the program's search. -/
namespace Go.Proofs.YtdelobaiicoogaaGreatDoor
open Go.ChangeShapes Go.WideShapes Go.ChangeAt Go.RowKit
attribute [local go_sem] Oper.semAt_some
variable {w w' : World} {p d : Nat} {h : Hp} {c : Nat} {F : List Nat} {sb mb k : Nat} {lv dp err : Int} {f : Nat → Option Value} {st : Sr}

def metF (m : List Nat) : Nat → Option Value := fun i => if i ∈ m then some (.agg #[]) else none
theorem metF_cons (m : List Nat) (x : Nat) : setF (metF m) x = metF (x :: m) := by
  funext i
  unfold setF metF
  by_cases e : i = x <;> simp [e]
theorem metF_none {m : List Nat} {x : Nat} (h : x ∉ m) : metF m x = none := if_neg h
theorem metF_some {m : List Nat} {x : Nat} (h : x ∈ m) : metF m x = some (.agg #[]) := if_pos h
/-- a search in memory -/
def SrchAt (w : World) (sb p mb : Nat) (st : Sr) : Prop := SearchAt (st.lv : Int) (st.dp : Int) w sb p mb 0 st.met.length (metF st.met)
theorem SearchAt.cell3 (H : SearchAt lv dp w sb p mb err k f) : w.cell? ⟨sb, 3, none⟩ = some (.int .i64 lv) := by simp [World.cell?, H.blk]
theorem SearchAt.cell4 (H : SearchAt lv dp w sb p mb err k f) : w.cell? ⟨sb, 4, none⟩ = some (.int .i64 dp) := by simp [World.cell?, H.blk]
theorem SearchAt.free (H : SearchAt lv dp w sb p mb err k f) (i : Nat) : w.frozen? ⟨sb, i, none⟩ = false := by simp [World.frozen?, H.blk]
theorem SearchAt.setDp (H : SearchAt lv dp w sb p mb err k f) (x : Int) : SearchAt lv x (w.setCell ⟨sb, 4, none⟩ (.int .i64 x)) sb p mb err k f :=
  ⟨by simp [World.setCell, Array.getElem?_modify, H.blk], H.met.same (Below.heap_setCell _ ⟨sb, 4, none⟩ _ _ (fun e => H.ne e.symm))⟩
theorem SearchAt.setLv (H : SearchAt lv dp w sb p mb err k f) (x : Int) : SearchAt x dp (w.setCell ⟨sb, 3, none⟩ (.int .i64 x)) sb p mb err k f :=
  ⟨by simp [World.setCell, Array.getElem?_modify, H.blk], H.met.same (Below.heap_setCell _ ⟨sb, 3, none⟩ _ _ (fun e => H.ne e.symm))⟩
theorem srch_notin (H : IsHeap w p d h c F) (S : SearchAt lv dp w sb p mb err k f) : sb ∉ F := by
  intro hx
  rcases heap_kinds H sb hx with ⟨es, cl, h1⟩ | ⟨t, ht, hk⟩
  · rw [S.blk] at h1; cases h1
  · have := hk.one ⟨_, S.blk⟩
    subst this
    exact absurd ht (by decide)
theorem IsHeap.srch (H : IsHeap w p d h c F) (S : SearchAt lv dp w sb p mb err k f) (h0 : 0 < sb) (hm : Moves [sb] w w') : IsHeap w' p d h c F :=
  H.aside hm (fun x hx => by simp at hx; rw [hx]; exact srch_notin H S) (by simp; omega) (fun x hx _ h3 => by
    simp at hx
    subst hx
    exact absurd (h3.one ⟨_, S.blk⟩) (by decide))
theorem row_lies {β : Type} {sv : β → Value} {a : Option Addr} {l : List (ByteArray × β)} (R : L6.Row sv w a l) (hl : l ≠ []) : ∃ b off s, a = some ⟨b, off, none⟩ ∧ w.cell? ⟨b, off, none⟩ = some (.string s) := by
  rcases R with e | ⟨b, off, e, hh⟩
  · exact absurd e hl
  · obtain ⟨x, hx⟩ : ∃ x, l[0]? = some x := ⟨_, List.getElem?_eq_getElem (List.length_pos_iff.2 hl)⟩
    exact ⟨b, off, x.1, e, by simpa using (hh 0 x hx).1⟩
theorem five_no {v0 v1 v2 v3 v4 : Value} {s : ByteArray} (h0 : v0 ≠ .string s) (h1 : v1 ≠ .string s) (h2 : v2 ≠ .string s) (h3 : v3 ≠ .string s) (h4 : v4 ≠ .string s) (i : Nat) : (#[v0, v1, v2, v3, v4] : Array Value)[i]? ≠ some (.string s) := by
  match i with
  | 0 => simpa using h0
  | 1 => simpa using h1
  | 2 => simpa using h2
  | 3 => simpa using h3
  | 4 => simpa using h4
  | i + 5 => simp
/-- a row of texts lies apart from a search -/
theorem row_aside {β : Type} {sv : β → Value} {a : Option Addr} {l : List (ByteArray × β)} (R : L6.Row sv w a l) (S : SearchAt lv dp w sb p mb err k f) (hm : Moves [sb, mb] w w') : L6.Row sv w' a l :=
  row_keep R (fun x hx hl => by
    obtain ⟨b, off, s, e, hc⟩ := row_lies R hl
    rw [e] at hx
    injection hx with hx
    rw [← hx]
    refine hm.block b (World.block_lt_of_cell? _ _ hc) ?_
    simp only [List.mem_cons, List.not_mem_nil, or_false]
    rintro (rfl | rfl)
    · simp only [World.cell?, S.blk, Option.isSome_none, Bool.false_eq_true, if_false] at hc
      exact absurd hc (five_no (fun h => by cases h) (fun h => by cases h) (fun h => by cases h) (fun h => by cases h) (fun h => by cases h) off)
    · obtain ⟨es, cl, h4⟩ := S.met.kind
      simp [World.cell?, h4] at hc)
theorem moves_set {w w' : World} {fp : List Nat} {b j : Nat} {v : Value} (hb : b ∈ fp) (hm : Moves fp (w.setCell ⟨b, j, none⟩ v) w') : Moves fp w w' := (L5.Moves.set w b j v hb).then hm
/-- what the search answers -/
def RightSaid (T : Bool × Sr) (w : World) (sb p mb d : Nat) (h : Hp) (c : Nat) (F : List Nat) (e : Ending) (w' : World) : Prop :=
  e = .returned (.bool T.1) ∧ IsHeap w' p d h c F ∧ Moves [sb, mb] w w' ∧ (T.1 = true → SrchAt w' sb p mb T.2)

set_option maxHeartbeats 2000000 in
set_option maxRecDepth 20000 in
/-- a place that was met -/
theorem right_met (X : Nat) (hX : X < 4096) (lvl : Nat) (fr tt : ByteArray) (w : World) (H : IsHeap w p d h c F) (S : SrchAt w sb p mb st) (h0 : 0 < sb) (hm : X ∈ st.met) :
    Calls Tryz.prog 40 #[.pointer (some ⟨sb, 0, none⟩), .int .i64 (X : Int), .int .i64 (lvl : Int), .string fr, .string tt] w fun e w' => RightSaid (false, st) w sb p mb d h c F e w' := by
  have c4 := SearchAt.cell4 S
  have f4 := SearchAt.free S 4
  have HS := hide S
  have HH := hide H
  clear S H
  go_enter Tryz.func40, Tryz.ntmps40
  go_wp2_with fail
  have S1 := SearchAt.setDp (unhide HS) (max (st.dp : Int) (lvl : Int))
  refine (search_met X hX sb mb _ _ _ _ _ S1 (metF_some hm)).mono ?_
  rintro e w3 ⟨rfl, hb3⟩
  have HM3 : Hid (Moves [sb, mb] w w3) := moves_set (by simp) (L5.Moves.of_below _ hb3)
  have HI3 := hide (((unhide HH).srch (unhide HS) h0 (L5.Moves.set w sb 4 (.int .i64 (max (st.dp : Int) (lvl : Int))) (by simp))).grow hb3)
  clear S1 hb3 c4 f4
  go_wp2
  go_ret
  refine ⟨rfl, ?_, ?_, fun h => by simp at h⟩
  · exact (unhide HI3).grow (below_alloc _ _)
  · exact (unhide HM3).then (L5.Moves.of_below _ (below_alloc _ _))
end Go.Proofs.YtdelobaiicoogaaGreatDoor

/- The program's search: a place that is too deep, a leaf. -/
namespace Go.Proofs.YtdelobaiicoogaaGreatDoor
open Go.ChangeShapes Go.WideShapes Go.ChangeAt Go.RowKit
attribute [local go_sem] Oper.semAt_some
variable {w w' : World} {p d : Nat} {h : Hp} {c : Nat} {F : List Nat} {sb mb k : Nat} {lv dp err : Int} {f : Nat → Option Value} {st : Sr}

set_option maxHeartbeats 4000000 in
set_option maxRecDepth 20000 in
/-- too deep -/
theorem right_deep (X : Nat) (hX : X < 4096) (lvl : Nat) (h40 : 40 < lvl) (n : L6.Nd) (fr tt : ByteArray) (w : World) (H : IsHeap w p d h c F) (S : SrchAt w sb p mb st) (o : st.Ok) (h0 : 0 < sb) (hmb : 0 < mb) (hF : mb ∉ F) (hm : X ∉ st.met) (hT : getR h (X : Int) = (n, 0)) :
    Calls Tryz.prog 40 #[.pointer (some ⟨sb, 0, none⟩), .int .i64 (X : Int), .int .i64 (lvl : Int), .string fr, .string tt] w fun e w' => RightSaid (false, st) w sb p mb d h c F e w' := by
  have c4 := SearchAt.cell4 S
  have f4 := SearchAt.free S 4
  have hk : st.met.length ≤ 100000 := by have := o.len; omega
  have HS := hide S
  have HH := hide H
  have HT := hide hT
  have hlv : ¬ (lvl : Int) ≤ 40 := by omega
  have hlv2 : (40 : Int) < (lvl : Int) := by omega
  clear S H hT
  go_enter Tryz.func40, Tryz.ntmps40
  go_wp2_with fail
  have S1 := SearchAt.setDp (unhide HS) (max (st.dp : Int) (lvl : Int))
  have H1 := (unhide HH).srch (unhide HS) h0 (L5.Moves.set w sb 4 (.int .i64 (max (st.dp : Int) (lvl : Int))) (by simp))
  refine (search_new X hX sb mb _ _ _ _ H1 S1 (metF_none hm) hF hmb hk).mono ?_
  rintro e w3 ⟨ai, ak, ci, ck, rfl, hh, hcp, hs, hmv, hI⟩
  rw [unhide HT]
  have HM3 : Hid (Moves [sb, mb] w w3) := moves_set (b := sb) (by simp) (hmv.mono (fun x hx => .inl (by simp at hx; simp [hx])))
  have HI3 := hide hI
  clear S1 H1 hh hcp hs hmv hI c4 f4
  simp only
  go_wp2
  go_ret
  refine ⟨rfl, ?_, ?_, fun h => by simp at h⟩
  · exact (unhide HI3).grow (below_alloc _ _)
  · exact (unhide HM3).then (L5.Moves.of_below _ (below_alloc _ _))

set_option maxHeartbeats 4000000 in
set_option maxRecDepth 20000 in
/-- a leaf -/
theorem right_leaf (X : Nat) (hX : X < 4096) (lvl : Nat) (h1 : 1 ≤ lvl) (h40 : lvl ≤ 40) (its : List L6.It) (kds : List L6.Kd) (fr tt : ByteArray) (w : World) (H : IsHeap w p d h c F) (S : SrchAt w sb p mb st) (o : st.Ok) (h0 : 0 < sb) (hmb : 0 < mb) (hF : mb ∉ F) (hm : X ∉ st.met) (hT : getR h (X : Int) = (⟨true, its, kds⟩, 0)) (hne : its ≠ []) (hlen : its.length ≤ 1099) :
    Calls Tryz.prog 40 #[.pointer (some ⟨sb, 0, none⟩), .int .i64 (X : Int), .int .i64 (lvl : Int), .string fr, .string tt] w fun e w' => RightSaid (if st.lv = 0 ∨ st.lv = lvl then (leafOkB (firstK its) (lastK its) fr tt, ⟨X :: st.met, lvl, max st.dp lvl⟩) else (false, st)) w sb p mb d h c F e w' := by
  have c4 := SearchAt.cell4 S
  have f4 := SearchAt.free S 4
  have hk : st.met.length ≤ 100000 := by have := o.len; omega
  have HS := hide S
  have HH := hide H
  have HT := hide hT
  have HH1 := hide h1
  have hlv : (lvl : Int) ≤ 40 := by omega
  have hlv2 : ¬ (40 : Int) < (lvl : Int) := by omega
  have hmx : max (st.dp : Int) (lvl : Int) = ((max st.dp lvl : Nat) : Int) := by omega
  have HMX := hide hmx
  have HNE := hide hne
  have HLEN := hide hlen
  clear S H hT h1 hmx hne hlen
  go_enter Tryz.func40, Tryz.ntmps40
  go_wp2_with fail
  have S1 := SearchAt.setDp (unhide HS) (max (st.dp : Int) (lvl : Int))
  have H1 := (unhide HH).srch (unhide HS) h0 (L5.Moves.set w sb 4 (.int .i64 (max (st.dp : Int) (lvl : Int))) (by simp))
  refine (search_new X hX sb mb _ _ _ _ H1 S1 (metF_none hm) hF hmb hk).mono ?_
  rintro e w3 ⟨ai, ak, ci, ck, rfl, hh, hcp, hs, hmv, hI⟩
  rw [unhide HT] at hh ⊢
  have HM3 : Hid (Moves [sb, mb] w w3) := moves_set (b := sb) (by simp) (hmv.mono (fun x hx => .inl (by simp at hx; simp [hx])))
  have HI3 := hide hI
  rw [metF_cons, unhide HMX] at hs
  obtain ⟨b, off, rfl, hrow⟩ := hh.1.at (k := 0) (List.length_pos_iff.2 (unhide HNE))
  obtain ⟨m, hm1⟩ : ∃ m, its.length = m + 1 := ⟨its.length - 1, by have := List.length_pos_iff.2 (unhide HNE); omega⟩
  obtain ⟨x0, hx0⟩ := L6.get_some (l := its) (k := 0) (by omega)
  obtain ⟨xl, hxl⟩ := L6.get_some (l := its) (k := m) (by omega)
  have ef : firstK its = x0.1 := by unfold firstK; rw [hx0]
  have el : lastK its = xl.1 := by unfold lastK; rw [hm1, show m + 1 - 1 = m from rfl, hxl]
  have r0 : w3.cell? ⟨b, off, none⟩ = some (.string x0.1) := by simpa using (hrow 0 x0 hx0).1
  have rl : w3.cell? ⟨b, off + m * 2, none⟩ = some (.string xl.1) := (hrow m xl hxl).1
  have HEF := hide (And.intro ef el)
  clear ef el
  have hm1100 : m < 1100 := by have := unhide HLEN; omega
  obtain ⟨ob, hob⟩ : ∃ ob, ob = Obj.cells #[.bool true, .slice (some ⟨b, off, none⟩) (m + 1) ci, .slice ak kds.length ck] 38 (0, 0) := ⟨_, rfl⟩
  have hb4 := below_alloc w3 ob
  have HS4 := hide (hs.grow hb4)
  have HI4 := hide ((unhide HI3).grow hb4)
  have HM4 := hide ((unhide HM3).then (L5.Moves.of_below _ hb4))
  have q0 := cell_later' ob r0
  have ql := cell_later' ob rl
  have hbs : sb ≠ b := by
    rintro rfl
    have := r0
    simp only [World.cell?, hs.blk, Option.isSome_none, Bool.false_eq_true, if_false] at this
    exact absurd this (five_no (fun h => by cases h) (fun h => by cases h) (fun h => by cases h) (fun h => by cases h) (fun h => by cases h) off)
  subst hob
  have g3 := (unhide HS4).cell3
  have g3f := (unhide HS4).free 3
  have HX1 := hide hm1100
  have HX2 := hide hbs
  have HQ := hide (And.intro q0 ql)
  clear S1 H1 hh hcp hs hmv hI c4 f4 HM3 HI3 hrow r0 rl hb4 q0 ql hm1100 hbs
  simp only [hm1]
  go_wp2_with fail
  generalize w3.alloc (.cells #[.bool true, .slice (some ⟨b, off, none⟩) (m + 1) ci, .slice ak kds.length ck] 38) = w4 at *
  by_cases hv : st.lv = lvl
  · have g3' : w4.cell? ⟨sb, 3, none⟩ = some (.int .i64 (lvl : Int)) := by rw [g3, hv]
    refine (rightLeaf_at sb b off m ci (lvl : Int) x0.1 xl.1 fr tt w4 (beq_eq_false_iff_ne.2 (by have := unhide HH1; omega)) g3' (unhide HQ).1 (unhide HQ).2 (unhide HX1)).mono ?_
    rintro e w5 ⟨rfl, hw⟩
    subst hw
    clear g3 g3' g3f
    go_wp2
    go_ret
    rw [(unhide HEF).1, (unhide HEF).2]
    refine ⟨rfl, unhide HI4, unhide HM4, fun _ => ?_⟩
    have := unhide HS4
    rw [hv] at this
    exact this
  · by_cases hz : st.lv = 0
    · have g3' : w4.cell? ⟨sb, 3, none⟩ = some (.int .i64 0) := by rw [g3, hz]; rfl
      refine (rightLeaf_first sb b off m ci (lvl : Int) x0.1 xl.1 fr tt w4 g3' g3f (unhide HQ).1 (unhide HQ).2 (unhide HX2) (unhide HX1)).mono ?_
      rintro e w5 ⟨rfl, hw⟩
      subst hw
      clear g3 g3' g3f
      go_wp2
      go_ret
      rw [(unhide HEF).1, (unhide HEF).2]
      refine ⟨rfl, (unhide HI4).srch (unhide HS4) h0 (L5.Moves.set w4 sb 3 _ (by simp)), (unhide HM4).then (L5.Moves.set w4 sb 3 _ (by simp)), fun _ => ?_⟩
      exact (unhide HS4).setLv (lvl : Int)
    · refine (rightLeaf_off sb (st.lv : Int) (lvl : Int) _ fr tt w4 (beq_eq_false_iff_ne.2 (by omega)) (beq_eq_false_iff_ne.2 (by omega)) g3).mono ?_
      rintro e w5 ⟨rfl, hw⟩
      subst hw
      clear g3 g3f
      go_wp2
      go_ret
      exact ⟨rfl, unhide HI4, unhide HM4, fun h => by simp at h⟩
end Go.Proofs.YtdelobaiicoogaaGreatDoor
