/- What the law DiskLasts builds: the calls that are played first, and the bytes that may be there. -/
import Derived.Test.YtmkmebogfcbphaaMade
import Derived.Test.YtmkmebogfcbphaaRefc
import Derived.Deep.RegionHeld3
namespace Go.Proofs.Ytmkmebogfcbphaa
open Go.ChangeShapes Go.WideShapes Go.ChangeAt Go.RowKit

/-! calls in a row of one's own -/
def clL (c : Cl) : List Value := [.int .i64 c.k, .int .i64 c.n, .int .i64 c.cut, .int .u8 (c.a : Int), .int .u8 (c.b : Int), c.v]
def clCells (l : List Cl) : List Value := l.flatMap clL
theorem clCells_snoc (l : List Cl) (c : Cl) : clCells (l ++ [c]) = clCells l ++ clL c := by simp [clCells]
theorem clCells_at (l : List Cl) : ∀ (j : Nat) (h : j < l.length) (t : Nat), t < 6 → (clCells l)[j * 6 + t]? = (clL l[j])[t]? := by
  induction l with
  | nil => intro j h; simp at h
  | cons c r ih =>
    intro j h t ht
    have e : clCells (c :: r) = clL c ++ clCells r := rfl
    match j, h with
    | 0, _ => rw [e, Nat.zero_mul, Nat.zero_add, List.getElem?_append_left (by show t < 6; exact ht)]; rfl
    | j + 1, h =>
      rw [e, List.getElem?_append_right (by show 6 ≤ _; omega)]
      show (clCells r)[(j + 1) * 6 + t - 6]? = _
      rw [show (j + 1) * 6 + t - 6 = j * 6 + t by omega]
      exact ih j (by simpa using h) t ht
/-- a call that may be played -/
structure Good (W : World) (c : Cl) : Prop where
  ints : IsInts W c.v c.fs
  bk : -9223372036854775808 ≤ c.k ∧ c.k ≤ 9223372036854775807
  bn : -9223372036854775808 ≤ c.n ∧ c.n ≤ 9223372036854775807
  bc : -9223372036854775808 ≤ c.cut ∧ c.cut ≤ 9223372036854775807
  ba : c.a < 256
  bb : c.b < 256
  bl : c.fs.length ≤ maxLen
theorem ClAt.good {w : World} {b o : Nat} {c : Cl} (h : ClAt w b o c) : Good w c := ⟨h.ints, h.bk, h.bn, h.bc, h.ba, h.bb, h.bl⟩

theorem own_calls {W w : World} {v : Value} {l : List Cl} (h : w.ownsRow W.heap.size 36 6 v l.length (clCells l)) (hl : l.length ≤ 1000) (hg : ∀ c ∈ l, Good W c) (hb : Below W.heap.size W w) : ∃ a cap, v = .slice a l.length cap ∧ IsCalls w a l.length (fun i => l.getD i cl0) := by
  rcases h.2 with ⟨rfl, h0⟩ | ⟨g, cap, cur, rfl, _⟩
  · exact ⟨none, 0, by rw [h0], by unfold maxLen; omega, .inl h0⟩
  · refine ⟨_, _, rfl, by unfold maxLen; omega, .inr ⟨g, 0, rfl, fun i hi => ?_⟩⟩
    have hc : ∀ t u, t < 6 → (clL l[i])[t]? = some u → w.cell? ⟨g, 0 + i * 6 + t, none⟩ = some u := by
      intro t u ht hu
      have h1 := h.cells (g := g) rfl (i * 6 + t) u ((clCells_at l i hi t ht).trans hu)
      rw [Go.WideShapes.add_plain] at h1
      rw [show 0 + i * 6 + t = 0 + (i * 6 + t) by omega]
      exact h1
    have e : l.getD i cl0 = l[i] := by rw [List.getD_eq_getElem?_getD, List.getElem?_eq_getElem hi]; rfl
    show ClAt w g (0 + i * 6) (l.getD i cl0)
    rw [e]
    have gd := hg l[i] (List.getElem_mem hi)
    exact ⟨hc 0 _ (by omega) rfl, hc 1 _ (by omega) rfl, hc 2 _ (by omega) rfl, hc 3 _ (by omega) rfl, hc 4 _ (by omega) rfl, hc 5 _ (by omega) rfl, gd.ints.grow hb (Nat.le_refl _), gd.bk, gd.bn, gd.bc, gd.ba, gd.bb, gd.bl⟩

theorem info36 : (Try.prog.info? 36).map (fun i => (i.zero, i.size, i.bytes)) = some (some (.agg #[.int .i64 0, .int .i64 0, .int .i64 0, .int .u8 0, .int .u8 0, .slice none 0 0]), 6, 56) := by kernel_rfl

/-! where no power is told -/
theorem write_stays {m : Dk} (h1 : m.gone = false) (h2 : m.left = -1) (n : Int) (D : ByteArray) : (writeM m n D).gone = false ∧ (writeM m n D).left = -1 ∧ (writeM m n D).old = m.old := by
  unfold writeM
  rw [h1, if_neg (by decide), if_neg (by omega)]
  split
  · exact ⟨h1, h2, rfl⟩
  · split
    · exact ⟨h1, h2, rfl⟩
    · refine ⟨rfl, ?_, rfl⟩
      show spent m.left = -1
      rw [h2]
      rfl
theorem flush_stays {m : Dk} (h1 : m.gone = false) (h2 : m.left = -1) : (flushM m).gone = false ∧ (flushM m).left = -1 ∧ (flushM m).old.length = m.old.length ∧ (flushM m).op = [] := by
  unfold flushM
  rw [h1, if_neg (by decide), if_neg (by omega)]
  refine ⟨rfl, ?_, flushL_length _ _, rfl⟩
  show spent m.left = -1
  rw [h2]
  rfl
theorem play_stays (g : Nat → Cl) : ∀ k, (∀ i, i < k → (g i).k ≠ 3) → (playM g k).gone = false ∧ (playM g k).left = -1 ∧ (playM g k).old.length = 8
  | 0, _ => ⟨rfl, rfl, by show (List.replicate 8 zeros).length = 8; rw [List.length_replicate]⟩
  | k + 1, h => by
    obtain ⟨h1, h2, h3⟩ := play_stays g k (fun i hi => h i (by omega))
    have hk := h k (by omega)
    show (stepM (playM g k) (g k)).gone = false ∧ (stepM (playM g k) (g k)).left = -1 ∧ (stepM (playM g k) (g k)).old.length = 8
    unfold stepM
    split
    · obtain ⟨a, b, c⟩ := write_stays h1 h2 (g k).n (dataS (g k).a (g k).b)
      exact ⟨a, b, by rw [c]; exact h3⟩
    · split
      · obtain ⟨a, b, c, _⟩ := flush_stays h1 h2
        exact ⟨a, b, by rw [c]; exact h3⟩
      · exact ⟨h1, h2, h3⟩
theorem play_last (g : Nat → Cl) (k : Nat) (h : ∀ i, i < k → (g i).k ≠ 3) (hk : (g k).k = 1) : (playM g (k + 1)).gone = false ∧ (playM g (k + 1)).left = -1 ∧ (playM g (k + 1)).old.length = 8 ∧ (playM g (k + 1)).op = [] := by
  obtain ⟨h1, h2, h3⟩ := play_stays g k h
  have e : playM g (k + 1) = flushM (playM g k) := by
    show stepM (playM g k) (g k) = _
    unfold stepM
    rw [if_neg (by omega), if_pos hk]
  rw [e]
  obtain ⟨a, b, c, d⟩ := flush_stays h1 h2
  exact ⟨a, b, by rw [c]; exact h3, d⟩

def cl1 : Cl := ⟨1, 0, 0, 0, 0, .slice none 0 0, []⟩
/-- the calls that are played first, and the disk behind them -/
theorem first_calls {W w : World} {a : Option Addr} {cap : Nat} {l : List Cl} (h : w.ownsRow W.heap.size 36 6 (.slice a (l.length + 1) cap) (l.length + 1) (clCells l ++ clL cl1)) (hl : l.length ≤ 120) (hg : ∀ c ∈ l, Good W c ∧ c.k ≠ 3) (hb : Below W.heap.size W w) :
    ∃ g, IsCalls w a (l.length + 1) g ∧ (playM g (l.length + 1)).gone = false ∧ (playM g (l.length + 1)).left = -1 ∧ (playM g (l.length + 1)).old.length = 8 ∧ (playM g (l.length + 1)).op = [] := by
  have e : (l ++ [cl1]).length = l.length + 1 := by simp
  rw [← clCells_snoc, ← e] at h
  have hg1 : Good W cl1 := ⟨⟨none, 0, rfl, .inl rfl⟩, by show (-9223372036854775808 : Int) ≤ 1 ∧ (1 : Int) ≤ _; omega, by show (-9223372036854775808 : Int) ≤ 0 ∧ (0 : Int) ≤ _; omega, by show (-9223372036854775808 : Int) ≤ 0 ∧ (0 : Int) ≤ _; omega, by show 0 < 256; omega, by show 0 < 256; omega, Nat.zero_le _⟩
  obtain ⟨a', cap', e', hc⟩ := own_calls h (by rw [e]; omega) (fun c hc => by
    rcases List.mem_append.1 hc with hc | hc
    · exact (hg c hc).1
    · simp at hc
      subst hc
      exact hg1) hb
  cases e'
  rw [e] at hc
  refine ⟨_, hc, play_last _ l.length (fun i hi => ?_) ?_⟩
  · show ((l ++ [cl1]).getD i cl0).k ≠ 3
    rw [List.getD_eq_getElem?_getD, List.getElem?_append_left hi, List.getElem?_eq_getElem hi]
    exact (hg _ (List.getElem_mem hi)).2
  · show ((l ++ [cl1]).getD l.length cl0).k = 1
    rw [List.getD_eq_getElem?_getD, List.getElem?_append_right (Nat.le_refl _), Nat.sub_self]
    rfl

/-! the bytes that may be there -/
/-- a list of texts for each sector, each in a row of its own -/
structure May (W w : World) (q : Nat) (mv : Nat → Value) (ml : Nat → List ByteArray) : Prop where
  blk : ∃ arr : Array Value, arr.size = 8 ∧ w.heap[q]? = some (.cells arr 41 (0, 0)) ∧ ∀ i, i < 8 → arr[i]? = some (mv i)
  own : ∀ i, i < 8 → w.ownsRow W.heap.size 9 1 (mv i) (ml i).length (strs (ml i))
  ne : ∀ i j, i < 8 → j < 8 → i ≠ j → ∀ g, (mv i).ownBlock = some g → (mv j).ownBlock ≠ some g

variable {W w w' : World} {q : Nat} {mv : Nat → Value} {ml : Nat → List ByteArray}

theorem May.cell (h : May W w q mv ml) (i : Nat) (hi : i < 8) : w.cell? ⟨q, i, none⟩ = some (mv i) := by
  obtain ⟨arr, _, h1, h2⟩ := h.blk
  simp [World.cell?, h1, h2 i hi]
theorem May.free (h : May W w q mv ml) (i : Nat) : w.frozen? ⟨q, i, none⟩ = false := by
  obtain ⟨arr, _, h1, _⟩ := h.blk
  simp [World.frozen?, h1]
theorem May.lt (h : May W w q mv ml) : q < w.heap.size := by
  obtain ⟨arr, _, h1, _⟩ := h.blk
  exact (Array.getElem?_eq_some_iff.1 h1).1
theorem May.same (h : May W w q mv ml) (hq : w'.heap[q]? = w.heap[q]?) (hr : ∀ i, i < 8 → ∀ g, (mv i).ownBlock = some g → w'.heap[g]? = w.heap[g]?) : May W w' q mv ml := by
  obtain ⟨arr, h0, h1, h2⟩ := h.blk
  exact ⟨⟨arr, h0, hq.trans h1, h2⟩, fun i hi => ownsRow_same (h.own i hi) (hr i hi), h.ne⟩
theorem May.keep {fp : List Nat} (h : May W w q mv ml) (hm : Moves fp w w') (hq : q ∉ fp) (hr : ∀ i, i < 8 → ∀ g, (mv i).ownBlock = some g → g ∉ fp) : May W w' q mv ml :=
  h.same (hm.block q h.lt hq) (fun i hi g hg => hm.block g ((h.own i hi).lt g hg).2 (hr i hi g hg))
theorem May.grow (h : May W w q mv ml) (hb : Below w.heap.size w w') : May W w' q mv ml :=
  h.keep (Moves.of_below [] hb) List.not_mem_nil (fun _ _ _ _ => List.not_mem_nil)
theorem May.nq (h : May W w q mv ml) (i : Nat) (hi : i < 8) : (mv i).ownBlock ≠ some q := by
  intro e
  obtain ⟨cur, h1⟩ := ownsRow_kind (h.own i hi) e
  obtain ⟨arr, _, h2, _⟩ := h.blk
  rw [h2] at h1
  simp at h1

def putV (mv : Nat → Value) (n : Nat) (v : Value) : Nat → Value := fun i => if i = n then v else mv i
def putL (ml : Nat → List ByteArray) (n : Nat) (s : ByteArray) : Nat → List ByteArray := fun i => if i = n then ml n ++ [s] else ml i

/-- one more text -/
theorem May.more (h : May W w q mv ml) {n : Nat} (hn : n < 8) {s : ByteArray} {w5 : World} {v' : Value} (hown : w5.ownsRow W.heap.size 9 1 v' ((ml n).length + 1) (strs (ml n ++ [s]))) (hg : w.grownBy w5 (mv n).ownBlock)
    (hloc : v'.ownBlock = (mv n).ownBlock ∨ ∃ g, v'.ownBlock = some g ∧ w.heap.size ≤ g) : May W (w5.setCell ⟨q, n, none⟩ v') q (putV mv n v') (putL ml n s) := by
  obtain ⟨arr, h0, h1, h2⟩ := h.blk
  have hq5 : w5.heap[q]? = w.heap[q]? := hg.block q h.lt (fun e => h.nq n hn e.symm)
  have hvq : v'.ownBlock ≠ some q := by
    rcases hloc with e | ⟨g, e, hge⟩
    · rw [e]; exact h.nq n hn
    · rw [e]
      have := h.lt
      simp
      omega
  refine ⟨⟨arr.setIfInBounds n v', by simpa using h0, ?_, fun i hi => ?_⟩, fun i hi => ?_, fun i j hi hj hij g e1 e2 => ?_⟩
  · have hb := hq5.trans h1
    simp [World.setCell, Array.getElem?_modify, hb]
  · unfold putV
    rw [Array.getElem?_setIfInBounds]
    by_cases e : i = n
    · subst e
      rw [if_pos rfl, if_pos rfl, if_pos (by omega)]
    · rw [if_neg (fun e' => e e'.symm), if_neg e]
      exact h2 i hi
  · unfold putV putL
    by_cases e : i = n
    · subst e
      rw [if_pos rfl, if_pos rfl, List.length_append]
      exact ownsRow_same hown (fun g hg' => Below.heap_setCell _ _ _ _ (by intro e; exact hvq (by rw [hg', e])))
    · rw [if_neg e, if_neg e]
      exact ownsRow_same (h.own i hi) (fun g hg' => (Below.heap_setCell _ _ _ _ (by intro e'; exact h.nq i hi (by rw [hg', e']))).trans (hg.block g ((h.own i hi).lt g hg').2 (fun e' => h.ne i n hi hn e g hg' e'.symm)))
  · unfold putV at e1 e2
    by_cases ei : i = n
    · rw [if_pos ei] at e1
      rw [if_neg (fun e' => hij (ei.trans e'.symm))] at e2
      rcases hloc with e | ⟨g', e, hge⟩
      · rw [e] at e1
        exact h.ne n j hn hj (by rw [← ei]; exact hij) g e1 e2
      · rw [e] at e1
        cases e1
        have := ((h.own j hj).lt _ e2).2
        omega
    · rw [if_neg ei] at e1
      by_cases ej : j = n
      · rw [if_pos ej] at e2
        rcases hloc with e | ⟨g', e, hge⟩
        · rw [e] at e2
          exact h.ne i n hi hn ei g e1 e2
        · rw [e] at e2
          cases e2
          have := ((h.own i hi).lt _ e1).2
          omega
      · rw [if_neg ej] at e2
        exact h.ne i j hi hj hij g e1 e2

/-- the disk, and beside it the texts -/
structure Lst (W w : World) (d q : Nat) (m : Dk) (k : Nat) (fp : List Nat) (mv : Nat → Value) (ml : Nat → List ByteArray) : Prop where
  s : Stp W w d m k fp
  may : May W w q mv ml
  qn : q ∉ fp
  ql : W.heap.size ≤ q
  rn : ∀ i, i < 8 → ∀ g, (mv i).ownBlock = some g → g ∉ fp
  sz : ∀ i, i < 8 → ∀ t ∈ ml i, t.size = 1024
theorem Lst.grow {d k : Nat} {m : Dk} {fp : List Nat} (h : Lst W w d q m k fp mv ml) (hb : Below w.heap.size w w') : Lst W w' d q m k fp mv ml :=
  ⟨h.s.grow hb, h.may.grow hb, h.qn, h.ql, h.rn, h.sz⟩
theorem Lst.mono {d k k' : Nat} {m : Dk} {fp : List Nat} (h : Lst W w d q m k fp mv ml) (hk : k ≤ k') : Lst W w d q m k' fp mv ml :=
  ⟨h.s.mono hk, h.may, h.qn, h.ql, h.rn, h.sz⟩
theorem Lst.turn {d k k' : Nat} {m m' : Dk} {fp : List Nat} (h : Lst W w d q m k fp mv ml) (ht : Turned w w' d m' k' fp) : ∃ fp', Lst W w' d q m' k' fp' mv ml := by
  have hmv := ht.moves
  obtain ⟨fp', h1, h2, h3⟩ := ht
  refine ⟨fp', ⟨h1, Moves.below h.s.bel h2 h.s.new h.s.bel.size, fun x hx => ?_⟩, h.may.keep hmv h.qn h.rn, fun hx => ?_, h.ql, fun i hi g hg hx => ?_, h.sz⟩
  · rcases h3 x hx with h4 | h4
    · exact h.s.new x h4
    · exact Nat.le_trans h.s.bel.size h4
  · rcases h3 q hx with h4 | h4
    · exact h.qn h4
    · have := h.may.lt
      omega
  · rcases h3 g hx with h4 | h4
    · exact h.rn i hi g hg h4
    · have := ((h.may.own i hi).lt g hg).2
      omega
theorem Lst.more {d k : Nat} {m : Dk} {fp : List Nat} (h : Lst W w d q m k fp mv ml) {n : Nat} (hn : n < 8) {s : ByteArray} (hs : s.size = 1024) {w5 : World} {v' : Value} (hown : w5.ownsRow W.heap.size 9 1 v' ((ml n).length + 1) (strs (ml n ++ [s]))) (hg : w.grownBy w5 (mv n).ownBlock)
    (hloc : v'.ownBlock = (mv n).ownBlock ∨ ∃ g, v'.ownBlock = some g ∧ w.heap.size ≤ g) : Lst W (w5.setCell ⟨q, n, none⟩ v') d q m k fp (putV mv n v') (putL ml n s) := by
  have hm1 : Moves (q :: (mv n).ownBlock.toList) w w5 := Moves.of_grown hg (fun k hk => by simp [hk])
  have hm2 : Moves (q :: (mv n).ownBlock.toList) w5 (w5.setCell ⟨q, n, none⟩ v') := Moves.set _ _ _ _ (by simp)
  have hmv := hm1.then hm2
  have hoff : ∀ x ∈ fp, x ∉ (q :: (mv n).ownBlock.toList) := by
    intro x hx hy
    simp at hy
    rcases hy with e | e
    · exact h.qn (by rw [← e]; exact hx)
    · exact h.rn n hn x e hx
  refine ⟨⟨h.s.disk.keep hmv hoff, Moves.below h.s.bel hmv (fun x hx => ?_) h.s.bel.size, h.s.new⟩, h.may.more hn hown hg hloc, h.qn, h.ql, fun i hi g hg' hx => ?_, fun i hi t ht => ?_⟩
  · simp at hx
    rcases hx with e | e
    · rw [e]; exact h.ql
    · exact ((h.may.own n hn).lt x e).1
  · unfold putV at hg'
    by_cases e : i = n
    · rw [if_pos e] at hg'
      rcases hloc with e2 | ⟨g', e2, hge⟩
      · rw [e2] at hg'
        exact h.rn n hn g hg' hx
      · rw [e2] at hg'
        cases hg'
        have := h.s.disk.lt _ hx
        omega
    · rw [if_neg e] at hg'
      exact h.rn i hi g hg' hx
  · unfold putL at ht
    by_cases e : i = n
    · rw [if_pos e] at ht
      rcases List.mem_append.1 ht with ht | ht
      · exact h.sz n hn t ht
      · simp at ht
        subst ht
        exact hs
    · rw [if_neg e] at ht
      exact h.sz i hi t ht
theorem putL_few (ml : Nat → List ByteArray) (n : Nat) (s : ByteArray) (B : Nat) (h : ∀ i, i < 8 → (ml i).length ≤ B) (hn : n < 8) : ∀ i, i < 8 → (putL ml n s i).length ≤ B + 1 := by
  intro i hi
  unfold putL
  by_cases e : i = n
  · rw [if_pos e, List.length_append]
    have := h n hn
    simp
    omega
  · rw [if_neg e]
    have := h i hi
    omega
theorem may_new (W w : World) : May W (w.alloc (.cells #[.slice none 0 0, .slice none 0 0, .slice none 0 0, .slice none 0 0, .slice none 0 0, .slice none 0 0, .slice none 0 0, .slice none 0 0] 41)) w.heap.size (fun _ => .slice none 0 0) (fun _ => []) := by
  refine ⟨⟨#[.slice none 0 0, .slice none 0 0, .slice none 0 0, .slice none 0 0, .slice none 0 0, .slice none 0 0, .slice none 0 0, .slice none 0 0], rfl, ?_, fun i hi => ?_⟩, fun i _ => World.ownsRow_nil _ _ _ _, fun i j _ _ _ g hg => by cases hg⟩
  · show (w.heap.push _)[w.heap.size]? = _
    rw [Array.getElem?_push, if_pos rfl]
  · match i, hi with
    | 0, _ => rfl
    | 1, _ => rfl
    | 2, _ => rfl
    | 3, _ => rfl
    | 4, _ => rfl
    | 5, _ => rfl
    | 6, _ => rfl
    | 7, _ => rfl

/-- what was flushed, and what is open, is there -/
def Cov (m : Dk) (ml : Nat → List ByteArray) : Prop := (∀ i, i < 8 → m.old.getD i ByteArray.empty ∈ ml i) ∧ ∀ p ∈ m.op, p.2 ∈ ml p.1
theorem putL_mem (ml : Nat → List ByteArray) (n : Nat) (s : ByteArray) (i : Nat) (t : ByteArray) (h : t ∈ ml i) : t ∈ putL ml n s i := by
  unfold putL
  by_cases e : i = n
  · subst e
    rw [if_pos rfl]
    exact List.mem_append_left _ h
  · rw [if_neg e]
    exact h

/-- byte by byte, what a crash leaves was flushed or written -/
def At (s : ByteArray) (k : Nat) : Option UInt8 := s.data.toList[k]?
theorem At_eq (s : ByteArray) (k : Nat) (h : k < s.size) : At s k = some s[k] := by
  unfold At
  rw [List.getElem?_eq_getElem (by rw [Array.length_toList]; exact h)]
  rfl
theorem At_ne {s t : ByteArray} {k : Nat} (hs : k < s.size) (ht : k < t.size) (h : ((s[k].toNat : Int) == (t[k].toNat : Int)) = false) : At s k ≠ At t k := by
  intro e
  rw [At_eq s k hs, At_eq t k ht] at e
  rw [Option.some.inj e] at h
  simp at h
theorem tear_at (old data : ByteArray) (f : Int) (k : Nat) (ho : old.size = 1024) (hd : data.size = 1024) (hk : k < 1024) : At (tear old data f) k = At old k ∨ At (tear old data f) k = At data k := by
  unfold tear
  split
  · exact .inl rfl
  · split
    · exact .inr rfl
    · unfold tearK At
      have hm : f.toNat % 1024 < 1024 := Nat.mod_lt _ (by omega)
      generalize f.toNat % 1024 = j at *
      have el : ∀ (s : ByteArray) (a b : Nat), (s.extract a b).data.toList = (s.data.toList.drop a).take (b - a) := fun s a b => by rw [ByteArray.data_extract, Array.toList_extract]
      have ol : old.data.toList.length = 1024 := by rw [Array.length_toList]; exact ho
      have dl : data.data.toList.length = 1024 := by rw [Array.length_toList]; exact hd
      rw [ByteArray.data_append, Array.toList_append, el, el]
      by_cases h : k < j
      · right
        rw [List.getElem?_append_left (by simp [dl]; omega), List.getElem?_take, if_pos (by omega), List.getElem?_drop, Nat.zero_add]
      · left
        rw [List.getElem?_append_right (by simp [dl]; omega)]
        rw [List.length_take, List.length_drop, dl, List.getElem?_take, if_pos (by rw [ho]; omega), List.getElem?_drop]
        congr 1
        omega
theorem crash_cov {m : Dk} (hok : Ok m) (hlen : m.old.length = 8) {ml : Nat → List ByteArray} (hc : Cov m ml) (fs : List Int) (n : Nat) (hn : n < 8) (k : Nat) (hk : k < 1024) :
    ∃ t ∈ ml n, At t k = At ((crashL m.old (m.op.zip fs)).getD n ByteArray.empty) k := by
  have key : ∀ j i, i < 8 → ∃ t ∈ ml i, At t k = At ((crashL m.old ((m.op.zip fs).take j)).getD i ByteArray.empty) k := by
    intro j
    induction j with
    | zero => intro i hi; exact ⟨_, hc.1 i hi, rfl⟩
    | succ j ih =>
      intro i hi
      by_cases h1 : j < m.op.length
      · by_cases h2 : j < fs.length
        · rw [crash_take _ _ _ _ h1 h2, List.getD_eq_getElem?_getD, List.getElem?_set]
          obtain ⟨hx, hs⟩ := hok.op _ (List.getElem_mem h1)
          by_cases e : m.op[j].1 = i
          · rw [if_pos e, if_pos (by rw [crashL_length]; omega)]
            have ho := crashL_size hok fs j m.op[j].1 hx
            rcases tear_at ((crashL m.old ((m.op.zip fs).take j)).getD m.op[j].1 ByteArray.empty) m.op[j].2 fs[j] k ho hs hk with e1 | e1
            · obtain ⟨t, ht, et⟩ := ih m.op[j].1 (by omega)
              rw [e] at ht
              exact ⟨t, ht, et.trans e1.symm⟩
            · refine ⟨m.op[j].2, ?_, e1.symm⟩
              rw [← e]
              exact hc.2 _ (List.getElem_mem h1)
          · rw [if_neg e, ← List.getD_eq_getElem?_getD]
            exact ih i hi
        · have e : (m.op.zip fs).take (j + 1) = (m.op.zip fs).take j := by rw [List.take_of_length_le (by rw [List.length_zip]; omega), List.take_of_length_le (by rw [List.length_zip]; omega)]
          rw [e]
          exact ih i hi
      · have e : (m.op.zip fs).take (j + 1) = (m.op.zip fs).take j := by rw [List.take_of_length_le (by rw [List.length_zip]; omega), List.take_of_length_le (by rw [List.length_zip]; omega)]
        rw [e]
        exact ih i hi
  have := key (m.op.zip fs).length n hn
  rw [List.take_length] at this
  exact this

theorem cov_more {m : Dk} {ml : Nat → List ByteArray} (h : Cov m ml) (n : Nat) (D : ByteArray) (l : Int) (g : Bool) : Cov ⟨m.old, m.op ++ [(n, D)], l, g⟩ (putL ml n D) := by
  refine ⟨fun i hi => putL_mem _ _ _ _ _ (h.1 i hi), fun p hp => ?_⟩
  rcases List.mem_append.1 hp with hp | hp
  · exact putL_mem _ _ _ _ _ (h.2 p hp)
  · simp at hp
    subst hp
    show D ∈ putL ml n D n
    unfold putL
    rw [if_pos rfl]
    exact List.mem_append_right _ (by simp)

theorem write_in {m : Dk} (h1 : m.gone = false) (h2 : m.left = -1) (h3 : m.old.length = 8) (n : Int) (D : ByteArray) (hD : D.size = 1024) (h0 : 0 ≤ n) (h8 : n < 8) : writeE m n D = 0 ∧ writeM m n D = ⟨m.old, m.op ++ [(n.toNat, D)], -1, false⟩ := by
  have hno : ¬ (n < 0 ∨ (m.old.length : Int) ≤ n) := by omega
  constructor
  · unfold writeE
    rw [if_neg (by rw [h1]; decide), if_neg (by omega), if_neg hno, if_neg (by omega)]
  · unfold writeM
    rw [if_neg (by rw [h1]; decide), if_neg (by omega), if_neg hno, if_neg (by omega), h1, h2]
    rfl
theorem write_off {m : Dk} (h1 : m.gone = false) (h2 : m.left = -1) (h3 : m.old.length = 8) (n : Int) (D : ByteArray) (hn : n < 0 ∨ 8 ≤ n) : writeE m n D = 31 ∧ writeM m n D = m := by
  have hno : n < 0 ∨ (m.old.length : Int) ≤ n := by omega
  constructor
  · unfold writeE
    rw [if_neg (by rw [h1]; decide), if_neg (by omega), if_pos hno]
  · unfold writeM
    rw [if_neg (by rw [h1]; decide), if_neg (by omega), if_pos hno]

/-- append of one element, where the order is drawn -/
theorem step_gen {ops : Array Oper} {o : Oper} {a : Act} {K : Act → World → Prop} {Q : Exit → Act → World → Prop} {E : Prop} {t e : TypeId} {z : Value} {size bytes : Nat} {B : Nat} {wr : World} {v : Value} {n : Nat} {xs news : List Value}
    (hgd : o.guard = none) (ht : Try.prog.underlying t = some (.slice e)) (hinfo : (Try.prog.info? e).map (fun i => (i.zero, i.size, i.bytes)) = some (some z, size, bytes)) (hzs : z.cells.size = size) (hsz : 0 < size)
    (s x : Operand) (ho : o.op = .call { callee := .builtin .append, args := #[s, x], argTypes := #[t, t] })
    (hs : a.eval s = v) (hx : a.eval x = .slice (some ⟨wr.heap.size, 0, none⟩) 1 1) (hown : wr.ownsRow B e size v n xs) (hB : B ≤ wr.heap.size) (hnl : news.length = size) (h1 : ∀ u ∈ news, u.oneCell' = true) (hlen : (n + 1) * bytes ≤ 140737488355328) (hl2 : n + 1 ≤ 140737488355328)
    (h : ∀ a' cap' w', w'.ownsRow B e size (.slice a' (n + 1) cap') (n + 1) (xs ++ news) → wr.grownBy w' v.ownBlock → ((Value.slice a' (n + 1) cap').ownBlock = v.ownBlock ∨ ∃ g, (Value.slice a' (n + 1) cap').ownBlock = some g ∧ wr.heap.size ≤ g) → K (a.put o.dst (.slice a' (n + 1) cap')) w') :
    if Region.wanted o (yielded ops a.tmps) = true then Oper.wp Try.prog o a (wr.alloc (.cells news.toArray e)) K Q else E := by
  have hw : Region.wanted o (yielded ops a.tmps) = true := by simp [Region.wanted, hgd]
  rw [if_pos hw]
  obtain ⟨i0, hi, hz0, hz1, hz2⟩ := info_parts hinfo
  obtain ⟨v', w', hr, ho', hg, _, hloc⟩ := run_append_own_at (P := Try.prog) (wr.alloc (.cells news.toArray e)) B t o.type e i0 z size bytes ht hi hz0 hz1 hz2 hzs hsz v n xs (World.ownsRow.alloc hown _) ⟨wr.heap.size, 0, none⟩ 1 1 news (by omega)
    (fun j u hj => by
      rw [Go.WideShapes.add_plain, Nat.zero_add]
      simpa using hj)
    h1 (by unfold maxLen; omega) hlen (by simp; omega)
  have hform : ∃ a' cap', v' = .slice a' (n + 1) cap' := by
    rcases ho'.2 with ⟨_, hn⟩ | ⟨g, cap, cur, e, _⟩
    · omega
    · exact ⟨_, _, e⟩
  obtain ⟨a', cap', rfl⟩ := hform
  unfold Oper.wp execOp
  simp only [ho, resolve, invoke, builtin, Sem.run_bind, Sem.run_pure, Result.andThen_ok, List.map_toArray, List.map_cons, List.map_nil, hs, hx, hr]
  refine h a' cap' w' ho' ⟨hg.os, hg.tape, hg.output, Nat.le_trans (by simp) hg.size, fun k hk hn => (hg.block k (by simp; omega) hn).trans (Below.heap_alloc _ _ _ hk)⟩ ?_
  rcases hloc with h | h
  · exact .inl h
  · exact .inr ⟨_, h, by simp⟩
/-- what yields is taken first -/
theorem takeY {P : Program} {md : Region.Mode} {ops : Array Oper} {Q : Exit → Act → World → Prop} {S : World → Prop} {oi : Oper} {fuel : Nat} {listed : Array Bool} {a : Act} {w : World} (i : Nat) (d : Option Tmp) (v : Value) (hi : ops[i]? = some oi) (hd : oi.dst = d)
    (hs : Region.noSelect ops = true) (hf : Region.free md ops listed i = true) (hr : (Region.ready md ops listed).contains i = true)
    (hQ : ∀ c a w, Q (.panic c) (a.put oi.dst v) w → Q (.panic c) a w) (hw : Region.wanted oi (yielded ops a.tmps) = true) (hy : ∀ w, S w → (execOp a.eval oi).run P w = .ok (.value v) w) (hS : S w)
    (h : wpAnyH P md ops Q S fuel (listed.setIfInBounds i true) (a.put d v) w) : wpAnyH P md ops Q S (fuel + 1) listed a w := by
  subst hd
  exact wpAnyH_take hi hs hf hr hQ (Or.inl ⟨hw, hy⟩) hS h
end Go.Proofs.Ytmkmebogfcbphaa
