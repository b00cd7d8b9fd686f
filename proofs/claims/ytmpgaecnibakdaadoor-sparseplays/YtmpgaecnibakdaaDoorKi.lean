/- Rows of pieces, of ranges and of bytes in memory: of one's own, only read, a block of bytes that is written to. -/
import Derived.Test.YtmpgaecnibakdaaDoorSh
namespace Go.Proofs.YtmpgaecnibakdaaDoor
open Go.ChangeShapes Go.WideShapes Go.ChangeAt Go.RowKit

theorem hide {p : Prop} (h : p) : Hid p := h
theorem unhide {p : Prop} (h : Hid p) : p := h
theorem ret_int {k : IntKind} {a b : Int} (h : a = b) : Ending.returned (.int k a) = .returned (.int k b) := by rw [h]
theorem below_then {W w1 w2 : World} (h : Below W.heap.size W w1) (k : Below w1.heap.size w1 w2) : Below W.heap.size W w2 := h.trans (k.mono h.size)
theorem b_alloc (w : World) (o : Obj) : Below w.heap.size w (w.alloc o) := (Below.refl _ _).alloc (Nat.le_refl _) _
theorem b_or {w w' : World} (h : w' = w ∨ w' = w.drew) : Below w.heap.size w w' := by
  rcases h with rfl | rfl
  · exact Below.refl _ _
  · exact (Below.refl _ _).drew
theorem cell_keep {w w' : World} {a : Addr} {v : Value} (h : w.cell? a = some v) (hb : Below w.heap.size w w') : w'.cell? a = some v := (hb.cell (World.block_lt_of_cell? w a h)).trans h
theorem get_some {α : Type} {l : List α} {i : Nat} (h : i < l.length) : ∃ x, l[i]? = some x := ⟨_, List.getElem?_eq_getElem h⟩
theorem str_ne {A B : ByteArray} (h : ¬ A = B) : (A.toList == B.toList) = false := beq_eq_false_iff_ne.2 (fun e => h (by
  rw [ByteArray.toList_eq, ByteArray.toList_eq] at e
  exact ByteArray.ext (Array.toList_inj.1 e)))
theorem str_eq (A : ByteArray) : (A.toList == A.toList) = true := by simp
theorem full_of {s : ByteArray} (h : bs s ≠ []) : s.toList.isEmpty = false := by
  rw [ByteArray.toList_eq, List.isEmpty_eq_false_iff]
  exact h
theorem void_of {s : ByteArray} (h : bs s = []) : s.toList.isEmpty = true := by
  rw [ByteArray.toList_eq, List.isEmpty_iff]
  exact h
theorem ext_drop (d : List UInt8) (k : Nat) : (tx d).extract k (tx d).size = tx (d.drop k) := by
  apply bs_inj
  rw [bs_tx]
  unfold bs
  rw [ByteArray.data_extract, Array.toList_extract]
  change (bs (tx d)).extract k (tx d).size = d.drop k
  rw [bs_tx, tx_size]
  rw [List.extract_eq_take_drop, List.take_of_length_le (by rw [List.length_drop]; omega)]

theorem info5 : (Tryd.prog.info? 5).map (fun i => (i.zero, i.size, i.bytes)) = some (some (.int .u8 0), 1, 1) := by kernel_rfl
theorem info58 : (Tryd.prog.info? 58).map (fun i => (i.zero, i.size, i.bytes)) = some (some (.agg #[.int .i64 0, .string ⟨#[]⟩]), 2, 24) := by kernel_rfl
theorem info52 : (Tryd.prog.info? 52).map (fun i => (i.zero, i.size, i.bytes)) = some (some (.agg #[.int .i64 0, .int .i64 0]), 2, 16) := by kernel_rfl

def byt (l : List UInt8) : List Value := l.map fun x => Value.int .u8 (x.toNat : Int)
theorem byt_length (l : List UInt8) : (byt l).length = l.length := by simp [byt]
theorem byt_append (l r : List UInt8) : byt (l ++ r) = byt l ++ byt r := by simp [byt]
theorem byt_get (l : List UInt8) (i : Nat) (h : i < l.length) : (byt l)[i]? = some (.int .u8 ((l.getD i 0).toNat : Int)) := by simp [byt, List.getD_eq_getElem?_getD, h]
theorem byt_one (l : List UInt8) : ∀ v ∈ byt l, v.oneCell' = true := by
  intro v hv
  obtain ⟨x, _, rfl⟩ := List.mem_map.1 hv
  rfl
theorem byt_all (l : List UInt8) : (byt l).toArray.all (·.oneCell') = true := by
  rw [Array.all_eq_true_iff_forall_mem]
  intro v hv
  exact byt_one l v (by simpa using hv)

/-- pairs of cells -/
def two {α : Type} (f g : α → Value) (l : List α) : List Value := l.flatMap fun p => [f p, g p]
theorem two_length {α : Type} (f g : α → Value) (l : List α) : (two f g l).length = l.length * 2 := by
  induction l with
  | nil => rfl
  | cons x t ih =>
    have e : two f g (x :: t) = [f x, g x] ++ two f g t := rfl
    rw [e, List.length_append, ih, List.length_cons]
    simp
    omega
theorem two_append {α : Type} (f g : α → Value) (l r : List α) : two f g (l ++ r) = two f g l ++ two f g r := List.flatMap_append
theorem two_get {α : Type} (f g : α → Value) (l : List α) (i : Nat) (x : α) (h : l[i]? = some x) : (two f g l)[i * 2]? = some (f x) ∧ (two f g l)[i * 2 + 1]? = some (g x) := by
  induction l generalizing i with
  | nil => simp at h
  | cons y t ih =>
    have e : two f g (y :: t) = f y :: g y :: two f g t := rfl
    cases i with
    | zero =>
      simp at h
      subst h
      rw [e]
      exact ⟨rfl, rfl⟩
    | succ i =>
      have := ih i (by simpa using h)
      rw [e]
      have e1 : (i + 1) * 2 = i * 2 + 1 + 1 := by omega
      rw [e1]
      simpa using this
def ixV (p : Pc) : Value := .int .i64 p.1
def daV (p : Pc) : Value := .string (tx p.2)
def frV (p : Rg) : Value := .int .i64 p.1
def toV (p : Rg) : Value := .int .i64 p.2
def pcs (l : List Pc) : List Value := two ixV daV l
def rgs (l : List Rg) : List Value := two frV toV l

/-- of one's own -/
def OwnP (B : Nat) (w : World) (v : Value) (l : List Pc) : Prop := w.ownsRow B 58 2 v l.length (pcs l)
def OwnR (B : Nat) (w : World) (v : Value) (l : List Rg) : Prop := w.ownsRow B 52 2 v l.length (rgs l)
def OwnB (B : Nat) (w : World) (v : Value) (l : List UInt8) : Prop := w.ownsRow B 5 1 v l.length (byt l)
theorem ownsRow_same {w w' : World} {b : Nat} {e : TypeId} {size : Nat} {v : Value} {n : Nat} {xs : List Value} (h : w.ownsRow b e size v n xs) (hs : ∀ g, v.ownBlock = some g → w'.heap[g]? = w.heap[g]?) : w'.ownsRow b e size v n xs := by
  refine ⟨h.1, ?_⟩
  rcases h.2 with hn | ⟨g, cap, cur, rfl, hb, hgg, rest⟩
  · exact .inl hn
  · exact .inr ⟨g, cap, cur, rfl, hb, (hs g rfl).trans hgg, rest⟩
theorem ownsRow_form {w : World} {b : Nat} {e : TypeId} {size : Nat} {v : Value} {n : Nat} {xs : List Value} (h : w.ownsRow b e size v n xs) : ∃ a cap, v = .slice a n cap := by
  rcases h.2 with ⟨rfl, rfl⟩ | ⟨g, cap, cur, rfl, _⟩
  · exact ⟨_, _, rfl⟩
  · exact ⟨_, _, rfl⟩
theorem ownsRow_base {w : World} {b b' : Nat} {e : TypeId} {size : Nat} {v : Value} {n : Nat} {xs : List Value} (h : w.ownsRow b e size v n xs) (hb : b' ≤ b) : w.ownsRow b' e size v n xs := by
  refine ⟨h.1, ?_⟩
  rcases h.2 with hn | ⟨g, cap, cur, rfl, hgb, rest⟩
  · exact .inl hn
  · exact .inr ⟨g, cap, cur, rfl, Nat.le_trans hb hgb, rest⟩
theorem ownsRow_below {w w' : World} {b : Nat} {e : TypeId} {size : Nat} {v : Value} {n : Nat} {xs : List Value} (h : w.ownsRow b e size v n xs) (hb : Below w.heap.size w w') : w'.ownsRow b e size v n xs :=
  ownsRow_same h (fun g hg => hb.block g (World.ownsRow.lt h g hg).2)
theorem OwnP.nil (B : Nat) (w : World) : OwnP B w (.slice none 0 0) [] := World.ownsRow_nil _ _ _ _
theorem OwnR.nil (B : Nat) (w : World) : OwnR B w (.slice none 0 0) [] := World.ownsRow_nil _ _ _ _
theorem OwnB.nil (B : Nat) (w : World) : OwnB B w (.slice none 0 0) [] := World.ownsRow_nil _ _ _ _
theorem OwnP.form {B : Nat} {w : World} {v : Value} {l : List Pc} (h : OwnP B w v l) : ∃ a cap, v = .slice a l.length cap := ownsRow_form h
theorem OwnR.form {B : Nat} {w : World} {v : Value} {l : List Rg} (h : OwnR B w v l) : ∃ a cap, v = .slice a l.length cap := ownsRow_form h
theorem OwnB.form {B : Nat} {w : World} {v : Value} {l : List UInt8} (h : OwnB B w v l) : ∃ a cap, v = .slice a l.length cap := ownsRow_form h
theorem OwnP.below {B : Nat} {w w' : World} {v : Value} {l : List Pc} (h : OwnP B w v l) (hb : Below w.heap.size w w') : OwnP B w' v l := ownsRow_below h hb
theorem OwnR.below {B : Nat} {w w' : World} {v : Value} {l : List Rg} (h : OwnR B w v l) (hb : Below w.heap.size w w') : OwnR B w' v l := ownsRow_below h hb
theorem OwnB.below {B : Nat} {w w' : World} {v : Value} {l : List UInt8} (h : OwnB B w v l) (hb : Below w.heap.size w w') : OwnB B w' v l := ownsRow_below h hb
theorem OwnP.base {B B' : Nat} {w : World} {v : Value} {l : List Pc} (h : OwnP B w v l) (hb : B' ≤ B) : OwnP B' w v l := ownsRow_base h hb
theorem OwnR.base {B B' : Nat} {w : World} {v : Value} {l : List Rg} (h : OwnR B w v l) (hb : B' ≤ B) : OwnR B' w v l := ownsRow_base h hb
theorem OwnB.base {B B' : Nat} {w : World} {v : Value} {l : List UInt8} (h : OwnB B w v l) (hb : B' ≤ B) : OwnB B' w v l := ownsRow_base h hb
theorem OwnP.snoc {B : Nat} {w : World} {v : Value} {l : List Pc} {x : Pc} (h : w.ownsRow B 58 2 v (l.length + 1) (pcs l ++ [ixV x, daV x])) : OwnP B w v (l ++ [x]) := by
  unfold OwnP pcs
  rw [List.length_append, two_append]
  exact h
theorem OwnR.snoc {B : Nat} {w : World} {v : Value} {l : List Rg} {x : Rg} (h : w.ownsRow B 52 2 v (l.length + 1) (rgs l ++ [frV x, toV x])) : OwnR B w v (l ++ [x]) := by
  unfold OwnR rgs
  rw [List.length_append, two_append]
  exact h
theorem OwnB.snoc {B : Nat} {w : World} {v : Value} {l : List UInt8} {x : UInt8} (h : w.ownsRow B 5 1 v (l.length + 1) (byt l ++ [.int .u8 (x.toNat : Int)])) : OwnB B w v (l ++ [x]) := by
  unfold OwnB
  rw [List.length_append, byt_append]
  exact h

/-- only read: two cells an element -/
def Tw {α : Type} (f g : α → Value) (w : World) (a : Option Addr) (l : List α) : Prop := l.length = 0 ∨ ∃ b off, a = some ⟨b, off, none⟩ ∧ b < w.heap.size ∧ ∀ i x, l[i]? = some x → w.cell? ⟨b, off + i * 2, none⟩ = some (f x) ∧ w.cell? ⟨b, off + (i * 2 + 1), none⟩ = some (g x)
theorem Tw.below {α : Type} {f g : α → Value} {w w' : World} {a : Option Addr} {l : List α} (h : Tw f g w a l) (hb : Below w.heap.size w w') : Tw f g w' a l := by
  rcases h with h0 | ⟨b, off, rfl, hlt, hc⟩
  · exact .inl h0
  · exact .inr ⟨b, off, rfl, Nat.lt_of_lt_of_le hlt hb.size, fun i x hi => ⟨cell_keep (hc i x hi).1 hb, cell_keep (hc i x hi).2 hb⟩⟩
theorem Tw.at {α : Type} {f g : α → Value} {w : World} {a : Option Addr} {l : List α} (h : Tw f g w a l) {i : Nat} (hi : i < l.length) : ∃ b off, a = some ⟨b, off, none⟩ ∧ ∀ i x, l[i]? = some x → w.cell? ⟨b, off + i * 2, none⟩ = some (f x) ∧ w.cell? ⟨b, off + (i * 2 + 1), none⟩ = some (g x) := by
  rcases h with h0 | ⟨b, off, rfl, _, hc⟩
  · omega
  · exact ⟨b, off, rfl, hc⟩
theorem Tw.own {α : Type} {f g : α → Value} {T : TypeId} {B : Nat} {w : World} {a : Option Addr} {n cap : Nat} {l : List α} (h : w.ownsRow B T 2 (.slice a n cap) l.length (two f g l)) : Tw f g w a l := by
  have h' := h
  rcases h.2 with ⟨_, hn⟩ | ⟨b, cap', cur, e, _, hg, _⟩
  · exact .inl hn
  · injection e with e1 e2 e3
    subst e1 e2 e3
    refine .inr ⟨b, 0, rfl, (Array.getElem?_eq_some_iff.1 hg).1, fun i x hx => ?_⟩
    have hi : i < l.length := (List.getElem?_eq_some_iff.1 hx).1
    obtain ⟨p0, p1⟩ := two_get f g l i x hx
    rw [Nat.zero_add, Nat.zero_add]
    exact ⟨(World.ownsRow.cellAt h' (i * 2) (by omega)).trans p0, (World.ownsRow.cellAt h' (i * 2 + 1) (by omega)).trans p1⟩
theorem Tw.take {α : Type} {f g : α → Value} {w : World} {a : Option Addr} {l : List α} (h : Tw f g w a l) (k : Nat) : Tw f g w a (l.take k) := by
  rcases h with h0 | ⟨b, off, rfl, hlt, hc⟩
  · exact .inl (by rw [List.length_take]; omega)
  · refine .inr ⟨b, off, rfl, hlt, fun i x hi => hc i x ?_⟩
    rw [List.getElem?_take] at hi
    split at hi
    · exact hi
    · cases hi
/-- where the rest begins -/
def restA (a : Option Addr) (cap k : Nat) : Option Addr := if cap = k then a else a.map (·.add (k * 2))
theorem Tw.drop {α : Type} {f g : α → Value} {w : World} {a : Option Addr} {l : List α} (h : Tw f g w a l) {k cap : Nat} (hcap : l.length ≤ cap) : Tw f g w (restA a cap k) (l.drop k) := by
  by_cases hk : l.length ≤ k
  · exact .inl (by rw [List.length_drop]; omega)
  · rcases h with h0 | ⟨b, off, rfl, hlt, hc⟩
    · exact .inl (by rw [List.length_drop]; omega)
    · refine .inr ⟨b, off + k * 2, ?_, hlt, fun i x hi => ?_⟩
      · unfold restA
        rw [if_neg (by omega)]
        simp [Addr.add]
      · rw [List.getElem?_drop] at hi
        have := hc (k + i) x hi
        rw [show off + k * 2 + i * 2 = off + (k + i) * 2 by omega, show off + k * 2 + (i * 2 + 1) = off + ((k + i) * 2 + 1) by omega]
        exact this
/-- pieces that are only read; a place in memory that is one's own, or another's -/
def Ps (w : World) (a : Option Addr) (l : List Pc) : Prop := Tw ixV daV w a l
theorem Ps.below {w w' : World} {a : Option Addr} {l : List Pc} (h : Ps w a l) (hb : Below w.heap.size w w') : Ps w' a l := Tw.below h hb
theorem OwnP.ps {B : Nat} {w : World} {a : Option Addr} {n cap : Nat} {l : List Pc} (h : OwnP B w (.slice a n cap) l) : Ps w a l := Tw.own h
theorem Ps.nil (w : World) (a : Option Addr) : Ps w a [] := .inl rfl

/-! ### a block of bytes that is written to -/
theorem heap_alloc_new (w : World) (o : Obj) : (w.alloc o).heap[w.heap.size]? = some o := by
  show (w.heap.push o)[w.heap.size]? = _
  simp
def Bk (w : World) (b : Nat) (t : TypeId) (l : List UInt8) : Prop := w.heap[b]? = some (.cells (byt l).toArray t (0, 0))
def putB (w : World) (b : Nat) (l : List UInt8) : World := w.setRow b (byt l).toArray
theorem Bk.lt {w : World} {b : Nat} {t : TypeId} {l : List UInt8} (h : Bk w b t l) : b < w.heap.size := (Array.getElem?_eq_some_iff.1 h).1
theorem Bk.below {w w' : World} {b : Nat} {t : TypeId} {l : List UInt8} (h : Bk w b t l) (hb : Below w.heap.size w w') : Bk w' b t l := (hb.block b h.lt).trans h
theorem Bk.put {w : World} {b : Nat} {t : TypeId} {l : List UInt8} (h : Bk w b t l) (l' : List UInt8) : Bk (putB w b l') b t l' := setRow_heap w b _ _ t _ h
theorem Bk.same {w : World} {b : Nat} {t : TypeId} {l : List UInt8} (h : Bk w b t l) : putB w b l = w := setRow_self w b _ t _ h
theorem Bk.cell {w : World} {b : Nat} {t : TypeId} {l : List UInt8} (h : Bk w b t l) (i : Nat) (hi : i < l.length) : w.cell? ⟨b, i, none⟩ = some (.int .u8 ((l.getD i 0).toNat : Int)) := by
  rw [cell_of_row w b i _ t _ h, ← byt_get l i hi]
  simp
theorem putB_below {W w : World} {B b : Nat} (h : Below B W w) (hb : B ≤ b) (l : List UInt8) : Below B W (putB w b l) := by
  refine ⟨h.os, h.tape, h.output, ?_, fun k hk => ?_⟩
  · unfold putB World.setRow
    simp only [Array.size_modify]
    exact h.size
  · rw [← h.block k hk]
    unfold putB World.setRow
    simp only [Array.getElem?_modify]
    rw [if_neg (by omega)]
theorem putB_other {w : World} {b k : Nat} (hne : k ≠ b) (l : List UInt8) : (putB w b l).heap[k]? = w.heap[k]? := by
  unfold putB World.setRow
  simp only [Array.getElem?_modify]
  rw [if_neg (by omega)]
theorem putB_size (w : World) (b : Nat) (l : List UInt8) : (putB w b l).heap.size = w.heap.size := by
  unfold putB World.setRow
  simp

/-- copy of a text into such a block, from a place on -/
theorem run_copy_bk (w : World) (ty : TypeId) (b : Nat) (t : TypeId) (l : List UInt8) (h : Bk w b t l) (o n cap : Nat) (hn : o + n = l.length) (s : ByteArray) :
    (Builtin.copy_ #[63, 9] ty #[.slice (some ⟨b, o, none⟩) n cap, .string s]).run Tryd.prog w = .ok (goInt (Nat.min s.size n)) (putB w b (l.take o ++ cpy (l.drop o) (bs s))) := by
  obtain ⟨i0, hi, hz0, hz1, hz2⟩ := info_parts info5
  have hl := bs_len s
  obtain ⟨m, hm⟩ : ∃ m, m = Nat.min s.size n := ⟨_, rfl⟩
  have hm1 : m ≤ n := hm ▸ Nat.min_le_right _ _
  have hm2 : m ≤ s.size := hm ▸ Nat.min_le_left _ _
  have hm3 : s.size ≤ n → m = s.size := fun hc => hm.trans (Nat.min_eq_left hc)
  have hm4 : ¬ s.size ≤ n → m = n := fun hc => hm.trans (Nat.min_eq_right (by omega))
  have hst := run_storeCells_at Tryd.prog b o t (byt ((bs s).take m)) 0 (byt l).toArray w h (by rw [byt_length, List.length_take]; simp [byt_length]; omega) (byt_one _)
  have e : ((byt l).toArray.toList.take (o + 0) ++ byt ((bs s).take m) ++ (byt l).toArray.toList.drop (o + 0 + (byt ((bs s).take m)).length)).toArray = (byt (l.take o ++ cpy (l.drop o) (bs s))).toArray := by
    congr 1
    unfold cpy
    rw [byt_append, byt_append, byt_length, List.length_take, List.length_drop]
    simp only [Nat.add_zero]
    have h2 : (bs s).take m = (bs s).take (l.length - o) := by
      by_cases hc : s.size ≤ n
      · rw [List.take_of_length_le (by have := hm3 hc; omega), List.take_of_length_le (by omega)]
      · rw [hm4 hc, show l.length - o = n by omega]
    have h3 : (byt l).drop (o + min m (bs s).length) = byt ((l.drop o).drop (bs s).length) := by
      rw [List.drop_drop, hl, Nat.min_eq_left hm2]
      unfold byt
      rw [← List.map_drop]
      by_cases hc : s.size ≤ n
      · rw [hm3 hc]
      · rw [hm4 hc, List.drop_of_length_le (by omega), List.drop_of_length_le (by omega)]
    rw [h2, h3, List.append_assoc]
    congr 1
    unfold byt
    rw [List.map_take]
  rw [e] at hst
  have hbt : ((s.data.toList.map fun x => Value.int .u8 (x.toNat : Int)).take m) = byt ((bs s).take m) := by
    unfold byt bs
    rw [List.map_take]
  rw [← hm]
  simp [Builtin.copy_, run_underlying Tryd.underlying63, sizeOf, typeInfo, hi, Builtin.lenOf, Builtin.firstCells, ← hm]
  rw [show List.take m (List.map (fun b => Value.int .u8 (b.toNat : Int)) s.data.toList) = byt ((bs s).take m) from hbt]
  have hst' : (storeCells ⟨b, o, none⟩ (byt ((bs s).take m))).run Tryd.prog w = .ok () (putB w b (l.take o ++ cpy (l.drop o) (bs s))) := hst
  rw [hst']
  rfl
/-- zeros within such a block -/
theorem run_clear_bk (w : World) (ty : TypeId) (b : Nat) (t : TypeId) (l : List UInt8) (h : Bk w b t l) (o n cap : Nat) (hn : o + n ≤ l.length) (a : Option Addr) (ha : 0 < n → a = some ⟨b, o, none⟩) :
    (Builtin.clear_ #[63] ty #[.slice a n cap]).run Tryd.prog w = .ok (.tuple #[]) (putB w b (l.take o ++ List.replicate n 0 ++ l.drop (o + n))) := by
  obtain ⟨i0, hi, hz0, hz1, hz2⟩ := info_parts info5
  cases n with
  | zero =>
    rw [List.replicate_zero, List.append_nil, Nat.add_zero, List.take_append_drop, h.same]
    cases a <;> simp [Builtin.clear_, run_underlying Tryd.underlying63]
  | succ n =>
    rw [ha (by omega)]
    have hst := run_storeCells_at Tryd.prog b o t (byt (List.replicate (n + 1) 0)) 0 (byt l).toArray w h (by rw [byt_length, List.length_replicate]; simp [byt_length]; omega) (byt_one _)
    have e : ((byt l).toArray.toList.take (o + 0) ++ byt (List.replicate (n + 1) 0) ++ (byt l).toArray.toList.drop (o + 0 + (byt (List.replicate (n + 1) 0)).length)).toArray = (byt (l.take o ++ List.replicate (n + 1) 0 ++ l.drop (o + (n + 1)))).toArray := by
      congr 1
      rw [byt_append, byt_append, byt_length, List.length_replicate]
      simp only [Nat.add_zero]
      unfold byt
      rw [List.map_take, List.map_drop]
    rw [e] at hst
    have hz : (Builtin.zeroCells (Value.int .u8 0).cells (n + 1)).toList = byt (List.replicate (n + 1) 0) := by
      unfold byt
      rw [List.map_replicate]
      simp [Builtin.zeroCells, Value.cells]
      apply List.ext_getElem
      · simp
      · intro i h1 h2
        simp [Nat.mod_one]
    have hst' : (storeCells ⟨b, o, none⟩ (byt (List.replicate (n + 1) 0))).run Tryd.prog w = .ok () (putB w b (l.take o ++ List.replicate (n + 1) 0 ++ l.drop (o + (n + 1)))) := hst
    simp [Builtin.clear_, run_underlying Tryd.underlying63, zeroValue, typeInfo, hi, hz0]
    rw [hz, hst', List.append_assoc]
    rfl
/-- string(b) of such a block, of what is one's own -/
theorem conv_bk (w : World) (b : Nat) (t : TypeId) (l : List UInt8) (h : Bk w b t l) (cap : Nat) : (convert 63 9 (.slice (some ⟨b, 0, none⟩) l.length cap)).run Tryd.prog w = .ok (.string (tx l)) w := by
  have hr := run_convert_bytes_arg (P := Tryd.prog) w 63 5 Tryd.underlying63 Tryd.underlying5 b 0 l.length cap (l.map fun x => (x.toNat : Int)) (by simp) (fun i hi => by
    rw [Nat.zero_add, h.cell i hi]
    simp [List.getD_eq_getElem?_getD, hi]) 9 Tryd.underlying9
  rw [hr]
  congr 2
  apply ByteArray.ext
  apply Array.toList_inj.1
  rw [strOfNums_data]
  show _ = l
  rw [List.map_map]
  refine (List.map_congr_left (g := id) (fun x _ => ?_)).trans (List.map_id l)
  simp [Function.comp]
theorem conv_own {B : Nat} {w : World} {v : Value} {l : List UInt8} (h : OwnB B w v l) : (convert 63 9 v).run Tryd.prog w = .ok (.string (tx l)) w := by
  have h' := h
  obtain ⟨_, ⟨rfl, hn⟩ | ⟨g, cap, cur, rfl, _⟩⟩ := h
  · obtain rfl := List.length_eq_zero_iff.1 hn
    exact run_convert_bytes_nil (P := Tryd.prog) w 63 5 Tryd.underlying63 Tryd.underlying5 0 0 9 Tryd.underlying9
  · have hr := run_convert_bytes_arg (P := Tryd.prog) w 63 5 Tryd.underlying63 Tryd.underlying5 g 0 l.length cap (l.map fun x => (x.toNat : Int)) (by simp) (fun i hi => by
      rw [Nat.zero_add, World.ownsRow.cellAt h' i (by omega), byt_get l i hi]
      simp [List.getD_eq_getElem?_getD, hi]) 9 Tryd.underlying9
    rw [hr]
    congr 2
    apply ByteArray.ext
    apply Array.toList_inj.1
    rw [strOfNums_data]
    show _ = l
    rw [List.map_map]
    refine (List.map_congr_left (g := id) (fun x _ => ?_)).trans (List.map_id l)
    simp [Function.comp]
/-- make([]byte, n): a block of zeros -/
def mkB (n : Nat) (w : World) : World := w.alloc (.cells (madeCells (Value.int .u8 0).cells (n * 1)) 5)
theorem mkB_bk (n : Nat) (w : World) : Bk (mkB n w) w.heap.size 5 (List.replicate n 0) := by
  have e : madeCells (Value.int .u8 0).cells n = (byt (List.replicate n 0)).toArray := by
    apply Array.toList_inj.1
    rw [show (Value.int .u8 0).cells = #[.int .u8 0] from rfl, toList_madeCells_one]
    unfold byt
    rw [List.map_replicate]
    rfl
  unfold mkB Bk
  rw [Nat.mul_one, e]
  exact heap_alloc_new _ _
theorem make_run (n : Nat) (hn : n ≤ 8192) (w : World) : (Instr.makeSlice 63 (.int .i64 (n : Int)) (.int .i64 (n : Int))).run Tryd.prog w = .ok (.slice (some ⟨w.heap.size, 0, none⟩) n n) (mkB n w) := by
  obtain ⟨i0, hi, hz0, hz1, hz2⟩ := info_parts info5
  have h := run_make (P := Tryd.prog) w 63 5 i0 (.int .u8 0) Tryd.underlying63 hi hz0 .i64 .i64 n n (by omega) (Int.le_refl _) (by rw [hz2]; omega) (by omega)
  rw [hz1] at h
  simpa [mkB] using h

/-- append of one element, which stands in a new block -/
theorem app_gen {ops : Array Oper} {rest : List Oper} {o : Oper} {a : Act} {Q : Exit → Act → World → Prop} {t e : TypeId} {z : Value} {size bytes : Nat} {B : Nat} {wr : World} {v : Value} {n : Nat} {xs news : List Value}
    (ht : Tryd.prog.underlying t = some (.slice e)) (hinfo : (Tryd.prog.info? e).map (fun i => (i.zero, i.size, i.bytes)) = some (some z, size, bytes)) (hzs : z.cells.size = size) (hsz : 0 < size)
    (hwant : Region.wanted o (yielded ops a.tmps) = true) (s x : Operand) (ho : o.op = .call { callee := .builtin .append, args := #[s, x], argTypes := #[t, t] })
    (hs : a.eval s = v) (hx : a.eval x = .slice (some ⟨wr.heap.size, 0, none⟩) 1 1) (hown : wr.ownsRow B e size v n xs) (hB : B ≤ wr.heap.size) (hnl : news.length = size) (h1 : ∀ u ∈ news, u.oneCell' = true) (hlen : (n + 1) * bytes ≤ 140737488355328) (hl2 : n + 1 ≤ 140737488355328)
    (h : ∀ a' cap' w', w'.ownsRow B e size (.slice a' (n + 1) cap') (n + 1) (xs ++ news) → wr.grownBy w' v.ownBlock → ((Value.slice a' (n + 1) cap').ownBlock = v.ownBlock ∨ ∃ g, (Value.slice a' (n + 1) cap').ownBlock = some g ∧ wr.heap.size ≤ g) → wpList Tryd.prog ops Q rest (a.put o.dst (.slice a' (n + 1) cap')) w') :
    wpList Tryd.prog ops Q (o :: rest) a (wr.alloc (.cells news.toArray e)) := by
  obtain ⟨i0, hi, hz0, hz1, hz2⟩ := info_parts hinfo
  obtain ⟨v', w', hr, ho', hg, _, hloc⟩ := run_append_own_at (P := Tryd.prog) (wr.alloc (.cells news.toArray e)) B t o.type e i0 z size bytes ht hi hz0 hz1 hz2 hzs hsz v n xs (World.ownsRow.alloc hown _) ⟨wr.heap.size, 0, none⟩ 1 1 news (by omega)
    (fun j u hj => by
      rw [Go.WideShapes.add_plain, Nat.zero_add]
      simpa using hj)
    h1 (by unfold maxLen; omega) hlen (by simp; omega)
  have hform : ∃ a' cap', v' = .slice a' (n + 1) cap' := by
    rcases ho'.2 with ⟨_, hn⟩ | ⟨g, cap, cur, e, _⟩
    · omega
    · exact ⟨_, _, e⟩
  obtain ⟨a', cap', rfl⟩ := hform
  refine BigFrame.wpList_want hwant fun K hK => ?_
  unfold Oper.wp execOp
  simp only [ho, resolve, invoke, builtin, Sem.run_bind, Sem.run_pure, Result.andThen_ok, List.map_toArray, List.map_cons, List.map_nil, hs, hx, hr]
  refine hK _ _ (h a' cap' w' ho' ⟨hg.os, hg.tape, hg.output, Nat.le_trans (by simp) hg.size, fun k hk hn => (hg.block k (by simp; omega) hn).trans (Below.heap_alloc _ _ _ hk)⟩ ?_)
  rcases hloc with h | h
  · exact .inl h
  · exact .inr ⟨_, h, by simp⟩
/-- append of what another slice has -/
theorem run_app_src {t e : TypeId} {z : Value} {size bytes : Nat} (ht : Tryd.prog.underlying t = some (.slice e)) (hinfo : (Tryd.prog.info? e).map (fun i => (i.zero, i.size, i.bytes)) = some (some z, size, bytes)) (hzs : z.cells.size = size) (hsz : 0 < size)
    (B : Nat) (ty : TypeId) (w : World) (v src : Value) (n k : Nat) (xs ys : List Value) (hown : w.ownsRow B e size v n xs) (hsrc : w.ownsRow 0 e size src k ys) (h1 : ∀ u ∈ ys, u.oneCell' = true)
    (hl2 : n + k ≤ 140737488355328) (hlen : (n + k) * bytes ≤ 140737488355328) (hB : B ≤ w.heap.size) :
    ∃ v' w', (Builtin.append_ #[t, t] ty #[v, src]).run Tryd.prog w = .ok v' w' ∧ w'.ownsRow B e size v' (n + k) (xs ++ ys) ∧ w.grownBy w' v.ownBlock ∧ (v'.ownBlock = v.ownBlock ∨ v'.ownBlock = some w.heap.size) := by
  obtain ⟨i0, hi, hz0, hz1, hz2⟩ := info_parts hinfo
  have hs := hsrc
  rcases hsrc.2 with ⟨rfl, rfl⟩ | ⟨g, cap, cur, rfl, _⟩
  · have hy : ys = [] := List.eq_nil_of_length_eq_zero (by simpa using hsrc.1)
    subst hy
    refine ⟨v, w, ?_, by rw [List.append_nil]; exact hown, ⟨rfl, rfl, rfl, Nat.le_refl _, fun _ _ _ => rfl⟩, .inl rfl⟩
    rcases hown.2 with ⟨rfl, hn⟩ | ⟨g, cp, cur, rfl, _, _, hnc, _⟩
    · simp [Builtin.append_, run_underlying ht, sizeOf, typeInfo, hi, Builtin.lenOf, Builtin.firstCells]
    · simp [Builtin.append_, run_underlying ht, sizeOf, typeInfo, hi, Builtin.lenOf, Builtin.firstCells, hnc, storeCells]
  · obtain ⟨v', w', hr, ho', hg, _, hloc⟩ := run_append_own_at (P := Tryd.prog) w B t ty e i0 z size bytes ht hi hz0 hz1 hz2 hzs hsz v n xs hown ⟨g, 0, none⟩ k cap ys hs.1 (hs.cells rfl) h1 (by unfold maxLen; omega) hlen hB
    exact ⟨v', w', hr, ho', hg, hloc⟩
theorem app_src {ops : Array Oper} {rest : List Oper} {o : Oper} {a : Act} {Q : Exit → Act → World → Prop} {t e : TypeId} {z : Value} {size bytes : Nat} {B : Nat} {w : World} {v src : Value} {n k : Nat} {xs ys : List Value}
    (ht : Tryd.prog.underlying t = some (.slice e)) (hinfo : (Tryd.prog.info? e).map (fun i => (i.zero, i.size, i.bytes)) = some (some z, size, bytes)) (hzs : z.cells.size = size) (hsz : 0 < size)
    (hwant : Region.wanted o (yielded ops a.tmps) = true) (s x : Operand) (ho : o.op = .call { callee := .builtin .append, args := #[s, x], argTypes := #[t, t] })
    (hs : a.eval s = v) (hx : a.eval x = src) (hown : w.ownsRow B e size v n xs) (hsrc : w.ownsRow 0 e size src k ys) (h1 : ∀ u ∈ ys, u.oneCell' = true)
    (hl2 : n + k ≤ 140737488355328) (hlen : (n + k) * bytes ≤ 140737488355328) (hB : B ≤ w.heap.size)
    (h : ∀ v' w', w'.ownsRow B e size v' (n + k) (xs ++ ys) → w.grownBy w' v.ownBlock → (v'.ownBlock = v.ownBlock ∨ v'.ownBlock = some w.heap.size) → wpList Tryd.prog ops Q rest (a.put o.dst v') w') :
    wpList Tryd.prog ops Q (o :: rest) a w := by
  obtain ⟨v', w', hr, r1, r2, r3⟩ := run_app_src ht hinfo hzs hsz B o.type w v src n k xs ys hown hsrc h1 hl2 hlen hB
  refine BigFrame.wpList_want hwant fun K hK => ?_
  unfold Oper.wp execOp
  simp only [ho, resolve, invoke, builtin, Sem.run_bind, Sem.run_pure, Result.andThen_ok, List.map_toArray, List.map_cons, List.map_nil, hs, hx, hr]
  exact hK _ _ (h v' w' r1 r2 r3)
end Go.Proofs.YtmpgaecnibakdaaDoor
