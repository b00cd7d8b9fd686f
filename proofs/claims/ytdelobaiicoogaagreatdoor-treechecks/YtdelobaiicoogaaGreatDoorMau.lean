/- Texts that the proof needs, one behind the other. -/
import Derived.Test.YtdelobaiicoogaaGreatDoorMat
import Derived.OwnWalk
import Derived.Test.YtdelobaiicoogaaGreatDoorMam
/- The document's disk: New. -/
namespace Go.Proofs.YtdelobaiicoogaaGreatDoor.L3
open Go.ChangeShapes Go.WideShapes Go.ChangeAt Go.RowKit

variable {r : Nat} {m : Dk} {ov pv : Value}

theorem zeros_strOf : strOf (List.replicate 1024 0) = zeros := by
  apply data_inj
  unfold strOf
  rw [strOfNums_data, List.map_replicate, List.map_replicate]
  rfl

theorem made_zeros (n : Nat) : (madeCells (Value.int .u8 0).cells (n * 1)).toList = cells (List.replicate n 0) := by
  have e : ∀ i, (Value.int .u8 0).cells[i % (Value.int .u8 0).cells.size]! = Value.int .u8 0 := by
    intro i
    show (#[Value.int .u8 0])[i % 1]! = _
    rw [Nat.mod_one]
    rfl
  unfold madeCells cells
  rw [Array.toList_map, Array.toList_range, List.map_replicate, List.map_congr_left (fun i _ => e i), List.map_const', List.length_range, Nat.mul_one]
  rfl

/-- zeros by make -/
theorem make_zeros {ops : Array Oper} {rest : List Oper} {o : Oper} {a : Act} {Q : Exit → Act → World → Prop} {w : World} {n : Nat} {L : Int}
    (hg : o.guard = none) (l c : Operand) (hop : o.op = Op.makeSlice 140 l c) (hl : a.eval l = .int .i64 L) (hc : a.eval c = .int .i64 L) (hL : L = (n : Int)) (hn : n ≤ 5000)
    (hK : ∀ w', Own w.heap.size w' (.slice (some ⟨w.heap.size, 0, none⟩) n n) (List.replicate n 0) → Below w.heap.size w w' → wpList Tryz.prog ops Q rest (a.put o.dst (.slice (some ⟨w.heap.size, 0, none⟩) n n)) w') :
    wpList Tryz.prog ops Q (o :: rest) a w := by
  obtain ⟨i0, hi, hz0, hz1, hz2⟩ := info_parts info5
  refine wpList_make_full w hg l c 140 hop w.heap.size 5 i0 (.int .u8 0) 1 Tryz.underlying140 hi hz0 hz1 .i64 .i64 L L n hl hc hL hL (by rw [hz2]; omega) (by unfold maxLen; omega) (Nat.le_refl _) ?_
  intro w' h1 h2
  rw [made_zeros] at h1
  refine hK w' ?_ ((Below.refl _ _).grown h2 (Nat.le_refl _) (fun k hk => by cases hk))
  unfold Own
  rw [List.length_replicate]
  exact h1

set_option maxHeartbeats 1000000 in
set_option maxRecDepth 100000 in
theorem rzeros_any (w : World) : Calls Tryz.prog 21 #[] w fun e w' => e = .returned (.string zeros) ∧ Below w.heap.size w w' := by
  go_enter Tryz.func21, Tryz.ntmps21
  go_wp2_with (first
    | (refine make_zeros (n := 1024) rfl _ _ rfl rfl rfl rfl (by decide) ?_; intro w1 hown hb; have hcv := conv_own hown; rw [zeros_strOf] at hcv; clear hown)
    | go_in)
  go_ret
  exact ⟨rfl, hb⟩

theorem RefAt.longer {w w5 : World} {s : ByteArray} {ov' : Value} (h : RefAt w r m ov pv) (hok : Ok { m with old := m.old ++ [s] })
    (hown : w5.ownsRow 0 9 1 ov' (m.old.length + 1) (strs (m.old ++ [s]))) (hg5 : w.grownBy w5 ov.ownBlock) (hloc : ov'.ownBlock = ov.ownBlock ∨ ∃ g, ov'.ownBlock = some g ∧ w.heap.size ≤ g) :
    RefAt (w5.setCell ⟨r, 0, none⟩ ov') r { m with old := m.old ++ [s] } ov' pv := by
  have hr5 : w5.heap[r]? = w.heap[r]? := hg5.block r h.rlt (fun e => h.no e.symm)
  have hno : ov'.ownBlock ≠ some r := by
    rcases hloc with e | ⟨g, e, hg⟩
    · rw [e]; exact h.no
    · rw [e]
      have := h.rlt
      simp
      omega
  refine ⟨?_, ?_, ?_, hok⟩
  · have hb := hr5.trans h.blk
    simp [World.setCell, Array.getElem?_modify, hb]
  · show World.ownsRow _ 0 9 1 ov' (m.old ++ [s]).length _
    rw [List.length_append]
    exact ownsRow_same hown (fun g hg => Below.heap_setCell _ _ _ _ (by intro e; exact hno (by rw [hg, e])))
  · exact ownsRow_same h.op (fun g hg => (Below.heap_setCell _ _ _ _ (by intro e; exact h.np (by rw [hg, e]))).trans (hg5.block g (h.op.lt g hg).2 (fun e => h.nn g e.symm hg)))

set_option maxHeartbeats 1000000 in
set_option maxRecDepth 20000 in
theorem rnew_bad (n : Int) (w : World) (h : n < 1 ∨ 4096 < n) : Calls Tryz.prog 7 #[.int .i64 n] w fun e w' => e = .returned (.tuple #[.pointer none, .int .i64 1]) ∧ w' = w := by
  by_cases h1 : n < 1
  · go_enter Tryz.func7, Tryz.ntmps7
    go_wp2
    go_ret2
    exact ⟨rfl, rfl⟩
  · have h2 : 4096 < n := by omega
    go_enter Tryz.func7, Tryz.ntmps7
    go_wp2
    go_ret2
    exact ⟨rfl, rfl⟩

set_option maxHeartbeats 2000000 in
set_option maxRecDepth 20000 in
theorem rnew_any (n : Nat) (w : World) (h1 : 1 ≤ n) (h2 : n ≤ 4096) : Calls Tryz.prog 7 #[.int .i64 (n : Int)] w fun e w' => ∃ r fp, e = .returned (.tuple #[.pointer (some ⟨r, 0, none⟩), .int .i64 0]) ∧ IsRef w' r (newM n) fp ∧ Below w.heap.size w w' ∧ (∀ x ∈ fp, w.heap.size ≤ x) := by
  have h3 : ¬ (n : Int) < 1 := by omega
  have h4 : ¬ 4096 < (n : Int) := by omega
  go_enter Tryz.func7, Tryz.ntmps7
  go_wp2_with (go_at_call 21; refine (rzeros_any _).mono ?_; rintro e w1 ⟨rfl, hb1⟩; have HB1 := hide hb1; clear hb1)
  have hA1 : RefAt w1 w.heap.size (newM 0) (.slice none 0 0) (.slice none 0 0) := by
    have hb1 := unhide HB1
    refine ⟨?_, World.ownsRow_nil _ _ _ _, World.ownsRow_nil _ _ _ _, newM_ok 0 (by omega)⟩
    refine (hb1.block w.heap.size (by simp)).trans ?_
    show (w.heap.push _)[w.heap.size]? = _
    rw [Array.getElem?_push, if_pos rfl]
    rfl
  have HA1 := hide hA1
  have HW1 : Hid (Below w.heap.size w w1) := ((Below.refl _ _).alloc (Nat.le_refl _) _).trans ((unhide HB1).mono (by simp))
  obtain ⟨r, hr⟩ : ∃ x, x = w.heap.size := ⟨_, rfl⟩
  have HR := hide hr
  rw [← hr] at HA1 ⊢
  clear hA1 HB1 hr
  go_loopw [6] (fun j wr => ∃ (k : Nat) (ov : Value), k ≤ n ∧ j = .int .i64 (k : Int) ∧ RefAt wr r (newM k) ov (.slice none 0 0) ∧ Below w.heap.size w wr ∧ ∀ g, ov.ownBlock = some g → w.heap.size ≤ g) (fun j _ => n - (intOf j).toNat)
  case atStart => exact ⟨0, _, Nat.zero_le _, rfl, unhide HA1, unhide HW1, fun g hg => by cases hg⟩
  case round =>
    clear HA1 HW1
    obtain ⟨k, ov, hk, rfl, hA, hb, ho⟩ := hrel
    have HA := hide hA
    have HB := hide hb
    have HO := hide ho
    clear hb ho
    by_cases hlt : k < n
    · have hlt' : (k : Int) < (n : Int) := by omega
      have c0 := hA.cell0
      have HOld : Hid (wr.ownsRow 0 9 1 ov k (strs (List.replicate k zeros))) := by
        have := hA.old
        rw [show (newM k).old = List.replicate k zeros from rfl, List.length_replicate] at this
        exact this
      clear hA
      go_wp2_with (first
        | (at_builtin; refine app_gen (v := ov) (news := [.string zeros]) Tryz.underlying63 info9 rfl (by decide) rfl _ _ rfl rfl rfl (unhide HOld) (Nat.zero_le _) rfl (by intro u hu; simp at hu; subst hu; rfl) (by omega) (by omega) ?_; intro a5 cap5 w5 hown5 hg5 hloc; have hc5 := hg5.cell c0 (by have := (unhide HA).no; exact fun e => this e.symm); have hfr : w5.frozen? ⟨r, 0, none⟩ = false := (grown_frozen hg5 (unhide HA).rlt (by have := (unhide HA).no; exact fun e => this e.symm) 0).trans ((unhide HA).free 0); have HX := hide (And.intro hown5 (And.intro hg5 hloc)); clear hown5 hg5 hloc)
        | go_in)
      go_roundw
      case rel =>
        obtain ⟨hown5, hg5, hloc⟩ := unhide HX
        have hb := unhide HB
        have hl : RefAt (w5.setCell ⟨r, 0, none⟩ (.slice a5 (k + 1) cap5)) r (newM (k + 1)) (.slice a5 (k + 1) cap5) (.slice none 0 0) := by
          have e1 : (newM (k + 1)) = { newM k with old := (newM k).old ++ [zeros] } := by
            show (⟨List.replicate (k + 1) zeros, [], -1, false⟩ : Dk) = ⟨List.replicate k zeros ++ [zeros], [], -1, false⟩
            rw [List.replicate_succ']
          rw [e1]
          refine (unhide HA).longer (by rw [← e1]; exact newM_ok (k + 1) (by omega)) ?_ hg5 hloc
          show w5.ownsRow 0 9 1 _ ((List.replicate k zeros).length + 1) (strs (List.replicate k zeros ++ [zeros]))
          rw [List.length_replicate]
          simp only [strs, List.map_append, List.map_cons, List.map_nil]
          exact hown5
        refine ⟨k + 1, _, by omega, by go_num, hl, ?_, fun g hg => ?_⟩
        · have hb5 := hb.grown hg5 hb.size (fun g hg => unhide HO g hg)
          exact hb5.setCell (by have := unhide HR; show w.heap.size ≤ r; omega) _
        · rcases hloc with e | ⟨g', e, hg'⟩
          · rw [e] at hg
            exact unhide HO g hg
          · rw [e] at hg
            cases hg
            exact Nat.le_trans hb.size hg'
      case measure => simp [intOf]; omega
    · have hlt' : ¬ (k : Int) < (n : Int) := by omega
      have hkn : k = n := by omega
      subst hkn
      clear hA
      go_wp2
      go_ret2
      refine ⟨r, rfl, _, ⟨_, _, unhide HA, rfl⟩, unhide HB, ?_⟩
      intro x hx
      simp [rfOf, Value.ownBlock] at hx
      have := unhide HR
      rcases hx with h | h
      · omega
      · exact unhide HO x h
end Go.Proofs.YtdelobaiicoogaaGreatDoor.L3

/- The document's allocator in memory: New, at, Count. -/
namespace Go.Proofs.YtdelobaiicoogaaGreatDoor.L5
open Go.ChangeShapes Go.WideShapes Go.ChangeAt Go.RowKit

/-- a sector of the document's -/
structure Rc where
  c : Int
  b : Int
  f : Int
  wt : Bool
structure CellsAt (w : World) (g o : Nat) (q : Rc) : Prop where
  c0 : w.cell? ⟨g, o, none⟩ = some (.int .i64 q.c)
  c1 : w.cell? ⟨g, o + 1, none⟩ = some (.int .i64 q.b)
  c2 : w.cell? ⟨g, o + 2, none⟩ = some (.int .i64 q.f)
  c3 : w.cell? ⟨g, o + 3, none⟩ = some (.bool q.wt)
def Rep (q : Rc) : St → Prop
  | none => q.c = 0 ∧ q.wt = false
  | some (0, g) => q.c = 0 ∧ q.wt = true ∧ q.f = g
  | some (h + 1, g) => q.c = (h : Int) + 1 ∧ q.wt = false ∧ q.b = g

structure RefAt (w : World) (r g fr : Nat) (l : List St) : Prop where
  blk : w.heap[r]? = some (.cells #[.int .i64 (fr : Int), .slice (some ⟨g, 0, none⟩) l.length l.length] 143 (0, 0))
  row : ∀ (i : Nat) (s : St), l[i]? = some s → ∃ q : Rc, CellsAt w g (i * 4) q ∧ Rep q s
  free : ∀ j : Nat, w.frozen? ⟨g, j, none⟩ = false
  lt : g < w.heap.size
  ne : r ≠ g
  ok : Ok fr l
  kin : ∃ cs, w.heap[g]? = some (.cells cs 157 (0, 0))

variable {w w' : World} {r g fr : Nat} {l : List St}

theorem RefAt.cell0 (h : RefAt w r g fr l) : w.cell? ⟨r, 0, none⟩ = some (.int .i64 (fr : Int)) := by simp [World.cell?, h.blk]
theorem RefAt.cell1 (h : RefAt w r g fr l) : w.cell? ⟨r, 1, none⟩ = some (.slice (some ⟨g, 0, none⟩) l.length l.length) := by simp [World.cell?, h.blk]
theorem RefAt.rlt (h : RefAt w r g fr l) : r < w.heap.size := (Array.getElem?_eq_some_iff.1 h.blk).1
theorem CellsAt.same {g o : Nat} {q : Rc} (h : CellsAt w g o q) (hb : w'.heap[g]? = w.heap[g]?) : CellsAt w' g o q :=
  ⟨(World.cell?_of_block hb).trans h.c0, (World.cell?_of_block hb).trans h.c1, (World.cell?_of_block hb).trans h.c2, (World.cell?_of_block hb).trans h.c3⟩
theorem RefAt.keep {fq : List Nat} (h : RefAt w r g fr l) (hm : Moves fq w w') (hr : r ∉ fq) (hg : g ∉ fq) : RefAt w' r g fr l := by
  have hb := hm.block g h.lt hg
  refine ⟨(hm.block r h.rlt hr).trans h.blk, fun i s hi => ?_, fun j => (World.frozen?_of_block hb).trans (h.free j), Nat.lt_of_lt_of_le h.lt hm.size, h.ne, h.ok, by obtain ⟨cs, hc⟩ := h.kin; exact ⟨cs, hb.trans hc⟩⟩
  obtain ⟨q, h1, h2⟩ := h.row i s hi
  exact ⟨q, h1.same hb, h2⟩
theorem RefAt.grow (h : RefAt w r g fr l) (hm : Below w.heap.size w w') : RefAt w' r g fr l :=
  h.keep (Moves.of_below [] hm) List.not_mem_nil List.not_mem_nil

def put4 (w : World) (g o : Nat) (q : Rc) : World := (((w.setCell ⟨g, o, none⟩ (.int .i64 q.c)).setCell ⟨g, o + 1, none⟩ (.int .i64 q.b)).setCell ⟨g, o + 2, none⟩ (.int .i64 q.f)).setCell ⟨g, o + 3, none⟩ (.bool q.wt)
theorem addr_ne {g a b : Nat} (h : a ≠ b) : (⟨g, a, none⟩ : Addr) ≠ ⟨g, b, none⟩ := fun e => h (by injection e)
theorem put4_other {o p : Nat} (q : Rc) (h0 : p ≠ o) (h1 : p ≠ o + 1) (h2 : p ≠ o + 2) (h3 : p ≠ o + 3) : (put4 w g o q).cell? ⟨g, p, none⟩ = w.cell? ⟨g, p, none⟩ := by
  unfold put4
  rw [World.cell?_setCell_other _ _ _ _ (addr_ne (Ne.symm h3)), World.cell?_setCell_other _ _ _ _ (addr_ne (Ne.symm h2)), World.cell?_setCell_other _ _ _ _ (addr_ne (Ne.symm h1)), World.cell?_setCell_other _ _ _ _ (addr_ne (Ne.symm h0))]
theorem put4_moves (w : World) (g o : Nat) (q : Rc) : Moves [g] w (put4 w g o q) :=
  (((Moves.set w g o _ (by simp)).then (Moves.set _ g (o + 1) _ (by simp))).then (Moves.set _ g (o + 2) _ (by simp))).then (Moves.set _ g (o + 3) _ (by simp))
theorem put4_cells {o : Nat} {q : Rc} (q' : Rc) (h : CellsAt w g o q) : CellsAt (put4 w g o q') g o q' := by
  unfold put4
  have n01 : (⟨g, o + 1, none⟩ : Addr) ≠ ⟨g, o, none⟩ := addr_ne (by omega)
  have n02 : (⟨g, o + 2, none⟩ : Addr) ≠ ⟨g, o, none⟩ := addr_ne (by omega)
  have n03 : (⟨g, o + 3, none⟩ : Addr) ≠ ⟨g, o, none⟩ := addr_ne (by omega)
  have n12 : (⟨g, o + 2, none⟩ : Addr) ≠ ⟨g, o + 1, none⟩ := addr_ne (by omega)
  have n13 : (⟨g, o + 3, none⟩ : Addr) ≠ ⟨g, o + 1, none⟩ := addr_ne (by omega)
  have n23 : (⟨g, o + 3, none⟩ : Addr) ≠ ⟨g, o + 2, none⟩ := addr_ne (by omega)
  refine ⟨?_, ?_, ?_, ?_⟩
  · rw [World.cell?_setCell_other _ _ _ _ n03, World.cell?_setCell_other _ _ _ _ n02, World.cell?_setCell_other _ _ _ _ n01]
    exact World.cell?_setCell_same _ _ _ h.c0
  · rw [World.cell?_setCell_other _ _ _ _ n13, World.cell?_setCell_other _ _ _ _ n12]
    exact World.cell?_setCell_same _ _ _ ((World.cell?_setCell_other _ _ _ _ n01.symm).trans h.c1)
  · rw [World.cell?_setCell_other _ _ _ _ n23]
    refine World.cell?_setCell_same _ _ _ (((World.cell?_setCell_other _ _ _ _ n12.symm).trans (World.cell?_setCell_other _ _ _ _ n02.symm)).trans h.c2)
  · refine World.cell?_setCell_same _ _ _ ((((World.cell?_setCell_other _ _ _ _ n23.symm).trans (World.cell?_setCell_other _ _ _ _ n13.symm)).trans (World.cell?_setCell_other _ _ _ _ n03.symm)).trans h.c3)
theorem kind_set {w : World} {g j : Nat} {u : Value} {t : TypeId} (h : ∃ cs, w.heap[g]? = some (.cells cs t (0, 0))) : ∃ cs, (w.setCell ⟨g, j, none⟩ u).heap[g]? = some (.cells cs t (0, 0)) := by
  obtain ⟨cs, hc⟩ := h
  have e : (w.setCell ⟨g, j, none⟩ u).heap[g]? = some (.cells (cs.setIfInBounds j u) t (0, 0)) := by
    simp [World.setCell, Array.getElem?_modify, hc]
  exact ⟨_, e⟩
/-- one sector has turned -/
theorem RefAt.turn (h : RefAt w r g fr l) {i : Nat} {q : Rc} {s : St} (hi : i < l.length) (hm : Moves [g] w w') (hf : ∀ j : Nat, w'.frozen? ⟨g, j, none⟩ = w.frozen? ⟨g, j, none⟩) (hc : CellsAt w' g (i * 4) q) (hr : Rep q s) (hs : goodS s) (hk : ∃ cs, w'.heap[g]? = some (.cells cs 157 (0, 0)))
    (ho : ∀ p : Nat, (p < i * 4 ∨ i * 4 + 4 ≤ p) → w'.cell? ⟨g, p, none⟩ = w.cell? ⟨g, p, none⟩) : RefAt w' r g fr (l.set i s) := by
  refine ⟨?_, fun j x hj => ?_, fun j => (hf j).trans (h.free j), Nat.lt_of_lt_of_le h.lt hm.size, h.ne, ⟨by rw [List.length_set]; exact h.ok.few, fun x hx => ?_⟩, hk⟩
  · rw [List.length_set]
    exact (hm.block r h.rlt (by have := h.ne; simp; exact this)).trans h.blk
  · rw [List.getElem?_set] at hj
    split at hj
    · rename_i e
      subst e
      first
        | (rw [if_pos hi] at hj; cases hj; exact ⟨q, hc, hr⟩)
        | (cases hj; exact ⟨q, hc, hr⟩)
    · rename_i e
      obtain ⟨q2, h1, h2⟩ := h.row j x hj
      have hne : ∀ k, k < 4 → (j * 4 + k < i * 4 ∨ i * 4 + 4 ≤ j * 4 + k) := fun k hk => by omega
      exact ⟨q2, ⟨(ho _ (hne 0 (by omega))).trans h1.c0, (ho _ (hne 1 (by omega))).trans h1.c1, (ho _ (hne 2 (by omega))).trans h1.c2, (ho _ (hne 3 (by omega))).trans h1.c3⟩, h2⟩
  · rcases List.mem_or_eq_of_mem_set hx with hx | hx
    · exact h.ok.good x hx
    · rw [hx]; exact hs
theorem RefAt.put (h : RefAt w r g fr l) {i : Nat} {q : Rc} {s : St} (hi : i < l.length) (hr : Rep q s) (hs : goodS s) : RefAt (put4 w g (i * 4) q) r g fr (l.set i s) := by
  obtain ⟨q0, h0, _⟩ := h.row i l[i] (List.getElem?_eq_getElem hi)
  refine h.turn hi (put4_moves _ _ _ _) (fun j => by unfold put4; simp) (put4_cells q h0) hr hs (kind_set (kind_set (kind_set (kind_set h.kin)))) (fun p hp => put4_other q (by omega) (by omega) (by omega) (by omega))
theorem RefAt.set0 (h : RefAt w r g fr l) {i : Nat} {q : Rc} {c : Int} {s : St} (hi : i < l.length) (hq : CellsAt w g (i * 4) q) (hr : Rep { q with c := c } s) (hs : goodS s) : RefAt (w.setCell ⟨g, i * 4, none⟩ (.int .i64 c)) r g fr (l.set i s) := by
  refine h.turn (q := { q with c := c }) hi (Moves.set w g _ _ (by simp)) (fun j => by simp) ⟨World.cell?_setCell_same _ _ _ hq.c0, ?_, ?_, ?_⟩ hr hs (kind_set h.kin) (fun p hp => World.cell?_setCell_other _ _ _ _ (addr_ne (by omega)))
  · exact (World.cell?_setCell_other _ _ _ _ (addr_ne (by omega))).trans hq.c1
  · exact (World.cell?_setCell_other _ _ _ _ (addr_ne (by omega))).trans hq.c2
  · exact (World.cell?_setCell_other _ _ _ _ (addr_ne (by omega))).trans hq.c3

/-! New -/
set_option maxHeartbeats 1000000 in
set_option maxRecDepth 20000 in
theorem rnew_bad (f t : Int) (w : World) (h : f < 0 ∨ t < f ∨ 4096 < t) :
    Calls Tryz.prog 22 #[.int .i64 f, .int .i64 t] w fun e w' => e = .returned (.tuple #[.pointer none, .int .i64 1]) ∧ w' = w := by
  by_cases h1 : f < 0
  · go_enter Tryz.func22, Tryz.ntmps22
    go_wp2
    go_ret2
    simp
  · by_cases h2 : t < f
    · go_enter Tryz.func22, Tryz.ntmps22
      go_wp2
      go_ret2
      simp
    · have h3 : 4096 < t := by omega
      clear h
      go_enter Tryz.func22, Tryz.ntmps22
      go_wp2
      go_ret2
      simp
theorem info157 : (Tryz.prog.info? 157).map (fun i => (i.zero, i.size, i.bytes)) = some (some (.agg #[.int .i64 0, .int .i64 0, .int .i64 0, .bool false]), 4, 32) := by kernel_rfl
def mkW (w : World) (k : Nat) : World := w.alloc (.cells (madeCells #[.int .i64 0, .int .i64 0, .int .i64 0, .bool false] (k * 4)) 157)
theorem make_run (w : World) (k : Nat) (h : k ≤ 4096) : (Instr.makeSlice 141 (.int .i64 (k : Int)) (.int .i64 (k : Int))).run Tryz.prog w = .ok (.slice (some ⟨w.heap.size, 0, none⟩) k k) (mkW w k) := by
  obtain ⟨i0, hi, hz0, hz1, hz2⟩ := info_parts info157
  have := run_make (P := Tryz.prog) w 141 157 i0 _ Tryz.underlying141 hi hz0 .i64 .i64 (k : Int) (k : Int) (by omega) (Int.le_refl _) (by rw [hz2]; omega) (by omega)
  rw [this, hz1]
  simp only [Int.toNat_natCast]
  rfl
theorem made_cell (z : Array Value) (n j : Nat) (h : j < n) : (madeCells z n)[j]? = some (z[j % z.size]!) := by
  unfold madeCells
  simp [h]
theorem made_ref (w : World) (f k : Nat) (hok : Ok f (List.replicate k none)) :
    RefAt ((mkW w k).alloc (.cells #[.int .i64 (f : Int), .slice (some ⟨w.heap.size, 0, none⟩) k k] 143)) (w.heap.size + 1) w.heap.size f (List.replicate k none) := by
  have hb : ((mkW w k).alloc (.cells #[.int .i64 (f : Int), .slice (some ⟨w.heap.size, 0, none⟩) k k] 143)).heap[w.heap.size]? = some (.cells (madeCells #[.int .i64 0, .int .i64 0, .int .i64 0, .bool false] (k * 4)) 157 (0, 0)) := by
    rw [Below.heap_alloc _ _ _ (by unfold mkW; simp)]
    unfold mkW
    exact (MapKept.heap_alloc w _).1
  refine ⟨?_, fun i s hi => ?_, fun j => by simp [World.frozen?, hb], ?_, by omega, hok, ⟨_, hb⟩⟩
  · rw [List.length_replicate]
    unfold mkW
    show ((w.heap.push _).push _)[w.heap.size + 1]? = _
    rw [Array.getElem?_push, if_pos (by simp)]
  · rw [List.getElem?_replicate] at hi
    split at hi
    · rename_i hik
      cases hi
      have c : ∀ j, j < 4 → (madeCells #[Value.int .i64 0, .int .i64 0, .int .i64 0, .bool false] (k * 4))[i * 4 + j]? = some ((#[Value.int .i64 0, .int .i64 0, .int .i64 0, .bool false] : Array Value)[j]!) := by
        intro j hj
        rw [made_cell _ _ _ (by omega)]
        have e : (i * 4 + j) % 4 = j := by omega
        show some ((#[Value.int .i64 0, .int .i64 0, .int .i64 0, .bool false] : Array Value)[(i * 4 + j) % 4]!) = _
        rw [e]
      refine ⟨⟨0, 0, 0, false⟩, ⟨?_, ?_, ?_, ?_⟩, rfl, rfl⟩
      · have := c 0 (by omega)
        simp [World.cell?, hb]
        simpa using this
      · have := c 1 (by omega)
        simp [World.cell?, hb]
        simpa using this
      · have := c 2 (by omega)
        simp [World.cell?, hb]
        simpa using this
      · have := c 3 (by omega)
        simp [World.cell?, hb]
        simpa using this
    · cases hi
  · unfold mkW
    simp
    omega
set_option maxHeartbeats 1000000 in
set_option maxRecDepth 20000 in
theorem rnew_ok (f t : Nat) (w : World) (h1 : f ≤ t) (h2 : t ≤ 4096) :
    Calls Tryz.prog 22 #[.int .i64 (f : Int), .int .i64 (t : Int)] w fun e w' => ∃ r g, e = .returned (.tuple #[.pointer (some ⟨r, 0, none⟩), .int .i64 0]) ∧ RefAt w' r g f (newM f t) ∧ Below w.heap.size w w' ∧ w.heap.size ≤ r ∧ w.heap.size ≤ g := by
  have g1 : ¬ (f : Int) < 0 := by omega
  have g2 : ¬ (t : Int) < (f : Int) := by omega
  have g3 : ¬ (4096 : Int) < (t : Int) := by omega
  have hw : IntKind.i64.wrap ((t : Int) - (f : Int)) = ((t - f : Nat) : Int) := by rw [IntKind.wrap_i64]; omega
  have hmk := make_run w (t - f) (by omega)
  have es : (mkW w (t - f)).heap.size = w.heap.size + 1 := by unfold mkW; simp
  have H1 := hide h1
  have H2 := hide h2
  clear h1 h2
  generalize hk : t - f = k at *
  have HK := hide hk
  clear hk
  go_enter Tryz.func22, Tryz.ntmps22
  go_wp2
  go_ret2
  have h1 := unhide H1
  have h2 := unhide H2
  have hk := unhide HK
  subst hk
  refine ⟨w.heap.size + 1, rfl, w.heap.size, made_ref w f (t - f) (Ok.newM h1 h2), ?_, by omega, Nat.le_refl _⟩
  exact ((Below.refl _ w).alloc (Nat.le_refl _) _).alloc (by rw [show (w.alloc _).heap.size = (mkW w (t - f)).heap.size from rfl, es]; omega) _

/-! at -/
set_option maxHeartbeats 1000000 in
set_option maxRecDepth 20000 in
theorem rat_in (n : Int) (w : World) (h : RefAt w r g fr l) (hi : In fr l n) :
    Calls Tryz.prog 65 #[.pointer (some ⟨r, 0, none⟩), .int .i64 n] w fun e w' => e = .returned (.int .i64 (ix fr n : Int)) ∧ Below w.heap.size w w' := by
  have c0 := h.cell0
  have c1 := h.cell1
  have hfew := h.ok.few
  have e0 : (ix fr n : Int) = n - (fr : Int) := by unfold ix; unfold In at hi; omega
  rw [e0]
  have h1 : decide (n < (fr : Int)) = false := decide_eq_false (by unfold In at hi; omega)
  have h2 : n - (fr : Int) < (l.length : Int) := by unfold In at hi; omega
  have hw0 : IntKind.i64.wrap (n - (fr : Int)) = n - (fr : Int) := by rw [IntKind.wrap_i64]; unfold In at hi; omega
  obtain ⟨x, hx⟩ : ∃ x : Int, x = n - (fr : Int) := ⟨_, rfl⟩
  have hw : IntKind.i64.wrap (n - (fr : Int)) = x := by rw [hw0, hx]
  rw [← hx] at h2 ⊢
  clear h hi hfew e0 hw0 hx
  go_enter Tryz.func65, Tryz.ntmps65
  go_wp2_with fail
  go_quiet (fail)
  go_wp2
  go_ret
  exact ⟨rfl, ⟨rfl, rfl, rfl, Nat.le_refl _, fun _ _ => rfl⟩⟩
set_option maxHeartbeats 1000000 in
set_option maxRecDepth 20000 in
theorem rat_out (n : Int) (hn : I64 n) (w : World) (h : RefAt w r g fr l) (hi : ¬ In fr l n) :
    Calls Tryz.prog 65 #[.pointer (some ⟨r, 0, none⟩), .int .i64 n] w fun e w' => e = .returned (.int .i64 (-1)) ∧ Below w.heap.size w w' := by
  have c0 := h.cell0
  have c1 := h.cell1
  have hfew := h.ok.few
  by_cases h1 : n < (fr : Int)
  · clear h hi hfew hn
    go_enter Tryz.func65, Tryz.ntmps65
    go_wp2_with fail
    go_quiet (fail)
    go_wp2
    go_ret
    exact ⟨rfl, ⟨rfl, rfl, rfl, Nat.le_refl _, fun _ _ => rfl⟩⟩
  · have h1' : decide (n < (fr : Int)) = false := decide_eq_false h1
    have h2 : (l.length : Int) ≤ n - (fr : Int) := by unfold In at hi; omega
    have hw0 : IntKind.i64.wrap (n - (fr : Int)) = n - (fr : Int) := by rw [IntKind.wrap_i64]; unfold I64 at hn; omega
    obtain ⟨x, hx⟩ : ∃ x : Int, x = n - (fr : Int) := ⟨_, rfl⟩
    have hw : IntKind.i64.wrap (n - (fr : Int)) = x := by rw [hw0, hx]
    rw [← hx] at h2
    clear h hi hfew h1 hn hw0 hx
    go_enter Tryz.func65, Tryz.ntmps65
    go_wp2_with fail
    go_quiet (fail)
    go_wp2
    go_ret
    exact ⟨rfl, ⟨rfl, rfl, rfl, Nat.le_refl _, fun _ _ => rfl⟩⟩
end Go.Proofs.YtdelobaiicoogaaGreatDoor.L5

/- The document's heap: New. -/
namespace Go.Proofs.YtdelobaiicoogaaGreatDoor
open Go.ChangeShapes Go.WideShapes Go.ChangeAt Go.RowKit
def kz : List Value := List.replicate 4096 (.slice none 0 0)
set_option maxRecDepth 100000 in
theorem build97 (r a : Nat) (g : Int) (w : World) : (Instr.build 74 #[(0, .pointer (some ⟨r, 0, none⟩)), (1, .pointer (some ⟨a, 0, none⟩)), (2, .int .i64 g)]).run Tryz.prog w = .ok (.agg (.pointer (some ⟨r, 0, none⟩) :: .pointer (some ⟨a, 0, none⟩) :: .int .i64 g :: kz).toArray) w := by kernel_rfl
set_option maxRecDepth 100000 in
theorem box97 (cs : List Value) (w : World) : (Instr.box 74 (.agg (cs).toArray)).run Tryz.prog w = .ok (.pointer (some ⟨w.heap.size, 0, none⟩)) (w.alloc (.cells cs.toArray 74)) := by kernel_rfl
/-- such an operation, as the walk meets it -/
theorem wp_build97 {ops : Array Oper} {rest : List Oper} {o : Oper} {a : Act} {Q : Exit → Act → World → Prop} {w : World} {x y : Nat} {g : Int}
    (hg : o.guard = none) (o0 o1 o2 : Operand) (hop : o.op = Op.build 74 #[(0, o0), (1, o1), (2, o2)]) (h0 : a.eval o0 = .pointer (some ⟨x, 0, none⟩)) (h1 : a.eval o1 = .pointer (some ⟨y, 0, none⟩)) (h2 : a.eval o2 = .int .i64 g)
    (h : ∀ v, v = .agg (.pointer (some ⟨x, 0, none⟩) :: .pointer (some ⟨y, 0, none⟩) :: .int .i64 g :: kz).toArray → wpList Tryz.prog ops Q rest (a.put o.dst v) w) : wpList Tryz.prog ops Q (o :: rest) a w := by
  refine wpList_plain hg fun K' hK' => ?_
  have hr := build97 x y g w
  unfold Oper.wp
  simp only [execOp, hop, h0, h1, h2, List.map_toArray, List.map_cons, List.map_nil, Sem.run_bind, hr, Result.andThen_ok]
  exact hK' _ _ (h _ rfl)
theorem wp_box97 {ops : Array Oper} {rest : List Oper} {o : Oper} {a : Act} {Q : Exit → Act → World → Prop} {w : World} {cs : List Value}
    (hg : o.guard = none) (o0 : Operand) (hop : o.op = Op.box 74 o0) (h0 : a.eval o0 = .agg cs.toArray)
    (h : ∀ w', w' = w.alloc (.cells cs.toArray 74) → wpList Tryz.prog ops Q rest (a.put o.dst (.pointer (some ⟨w.heap.size, 0, none⟩))) w') : wpList Tryz.prog ops Q (o :: rest) a w := by
  refine wpList_plain hg fun K' hK' => ?_
  have hr := box97 cs w
  unfold Oper.wp
  simp only [execOp, hop, h0, Sem.run_bind, hr, Result.andThen_ok]
  exact hK' _ _ (h _ rfl)
theorem newM_len (n : Nat) : (L3.newM n).old.length = n := by
  show (List.replicate n _).length = n
  rw [List.length_replicate]
variable {r : Nat} {m : L3.Dk} {fr : List Nat}
theorem ranew2 (t : Nat) (w : World) (h1 : 2 ≤ t) (h2 : t ≤ 4096) :
    Calls Tryz.prog 22 #[.int .i64 2, .int .i64 (t : Int)] w fun e w' => ∃ r g, e = .returned (.tuple #[.pointer (some ⟨r, 0, none⟩), .int .i64 0]) ∧ L5.RefAt w' r g 2 (L5.newM 2 t) ∧ Below w.heap.size w w' ∧ w.heap.size ≤ r ∧ w.heap.size ≤ g := L5.rnew_ok 2 t w h1 h2
set_option maxHeartbeats 1000000 in
set_option maxRecDepth 20000 in
theorem rhnew_ok (g : Int) (w : World) (H : L3.IsRef w r m fr) (h1 : ¬ g < 0) (h2 : ¬ 1152921504606846976 < g) (h3 : ¬ m.old.length < 8) :
    Calls Tryz.prog 8 #[.pointer (some ⟨r, 0, none⟩), .int .i64 g] w fun e w' => ∃ p a b, e = .returned (.tuple #[.pointer (some ⟨p, 0, none⟩), .int .i64 0]) ∧ L5.RefAt w' a b 2 (L5.newM 2 m.old.length) ∧ w'.heap[p]? = some (.cells (.pointer (some ⟨r, 0, none⟩) :: .pointer (some ⟨a, 0, none⟩) :: .int .i64 g :: kz).toArray 74 (0, 0)) ∧ Below w.heap.size w w' ∧ w.heap.size ≤ p ∧ w.heap.size ≤ a ∧ w.heap.size ≤ b := by
  obtain ⟨ov, pv, H, rfl⟩ := H
  have h4 : ¬ (m.old.length : Int) < 8 := by omega
  have hfew := H.ok.many
  have h2s : 2 ≤ m.old.length := by omega
  have c0 := H.cell0
  obtain ⟨a0, cap0, rfl⟩ := L3.ownsRow_form H.old
  have HF := hide hfew
  have H2 := hide h2s
  clear H hfew h3 h2s
  go_enter Tryz.func8, Tryz.ntmps8
  go_wp2_with (first
    | (go_at_call 22; refine (ranew2 m.old.length _ (unhide H2) (unhide HF)).mono ?_; rintro e w2 ⟨a, b, rfl, ha, hb, hl⟩; have HX := hide (And.intro ha (And.intro hb hl)); clear ha hb hl)
    | (refine wp_build97 rfl _ _ _ rfl rfl rfl rfl ?_; intro v hv; have HV := hide hv; clear hv)
    | (refine wp_box97 rfl _ rfl (unhide HV) ?_; intro w3 hw3; have HW := hide hw3; clear hw3))
  go_ret2
  obtain ⟨ha, hb, hla, hlb⟩ := unhide HX
  have hw := unhide HW
  subst hw
  have hb2 := below_alloc w2 (.cells (.pointer (some ⟨r, 0, none⟩) :: .pointer (some ⟨a, 0, none⟩) :: .int .i64 g :: kz).toArray 74)
  exact ⟨w2.heap.size, a, b, rfl, ha.grow hb2, heap_alloc_new _ _, below_then hb hb2, hb.size, hla, hlb⟩

end Go.Proofs.YtdelobaiicoogaaGreatDoor

/- The document's allocator: Count, Mark, Hold. -/
namespace Go.Proofs.YtdelobaiicoogaaGreatDoor.L5
open Go.ChangeShapes Go.WideShapes Go.ChangeAt Go.RowKit

variable {w w' : World} {r g fr : Nat} {l : List St}

theorem Rep.cnt {q : Rc} {s : St} (h : Rep q s) : q.c = (cntS s : Int) := by
  match s, h with
  | none, h => exact h.1
  | some (0, g), h => exact h.1
  | some (c + 1, g), h => exact h.1
/-- a sector of the document's, where it lies -/
theorem RefAt.at (h : RefAt w r g fr l) {n : Int} (hi : In fr l n) : ∃ q, CellsAt w g (ix fr n * 4) q ∧ Rep q (sec fr l n) := h.row _ _ (sec_at hi)

set_option maxHeartbeats 1000000 in
set_option maxRecDepth 20000 in
theorem rcount_in (n : Int) (w : World) (h : RefAt w r g fr l) (hi : In fr l n) :
    Calls Tryz.prog 32 #[.pointer (some ⟨r, 0, none⟩), .int .i64 n] w fun e w' => e = .returned (.int .i64 (cntS (sec fr l n) : Int)) ∧ Below w.heap.size w w' := by
  have hlt := ix_lt hi
  have HR := hide (rat_in n w h hi)
  have HH := hide h
  have HI := hide hi
  have hlt' : (ix fr n : Int) < (l.length : Int) := by omega
  clear h hi
  go_enter Tryz.func32, Tryz.ntmps32
  go_wp2_with (go_at_call 65; refine (unhide HR).mono ?_; rintro e w1 ⟨rfl, hb1⟩; have hA := (unhide HH).grow hb1; have HB1 := hide hb1; have c1 := hA.cell1; obtain ⟨q, hq, hrep⟩ := hA.at (unhide HI); have q0 := hq.c0; rw [hrep.cnt] at q0; clear hA hb1 hq hrep)
  go_ret
  exact ⟨rfl, unhide HB1⟩
set_option maxHeartbeats 1000000 in
set_option maxRecDepth 20000 in
theorem rcount_any (n : Int) (hn : I64 n) (w : World) (h : RefAt w r g fr l) :
    Calls Tryz.prog 32 #[.pointer (some ⟨r, 0, none⟩), .int .i64 n] w fun e w' => e = .returned (.int .i64 (cntS (sec fr l n) : Int)) ∧ Below w.heap.size w w' := by
  by_cases hi : In fr l n
  · exact rcount_in n w h hi
  · rw [sec_none hi]
    have HR := hide (rat_out n hn w h hi)
    clear h hi hn
    show Calls Tryz.prog 32 #[.pointer (some ⟨r, 0, none⟩), .int .i64 n] w fun e w' => e = .returned (.int .i64 0) ∧ Below w.heap.size w w'
    go_enter Tryz.func32, Tryz.ntmps32
    go_wp2_with (go_at_call 65; refine (unhide HR).mono ?_; rintro e w1 ⟨rfl, hb1⟩; have HB1 := hide hb1; clear hb1)
    go_ret
    exact ⟨rfl, unhide HB1⟩

/-! Mark -/
/-! Hold -/
set_option maxHeartbeats 1000000 in
set_option maxRecDepth 20000 in
theorem rhold_free (n : Int) (hn : I64 n) (w : World) (h : RefAt w r g fr l) (hc : cntS (sec fr l n) = 0) :
    Calls Tryz.prog 38 #[.pointer (some ⟨r, 0, none⟩), .int .i64 n] w fun e w' => e = .returned (.int .i64 51) ∧ Below w.heap.size w w' := by
  by_cases hi : In fr l n
  · have hlt := ix_lt hi
    have HR := hide (rat_in n w h hi)
    have HH := hide h
    have HI := hide hi
    have hlt' : (ix fr n : Int) < (l.length : Int) := by omega
    have HX := hide hc
    clear h hi hc hn
    go_enter Tryz.func38, Tryz.ntmps38
    go_wp2_with (go_at_call 65; refine (unhide HR).mono ?_; rintro e w1 ⟨rfl, hb1⟩; have hA := (unhide HH).grow hb1; have HB1 := hide hb1; have c1 := hA.cell1; obtain ⟨q, hq, hrep⟩ := hA.at (unhide HI); have q0 := hq.c0; rw [hrep.cnt, unhide HX] at q0; have q0' : w1.cell? ⟨g, ix fr n * 4, none⟩ = some (.int .i64 0) := q0; clear hA hb1 hq hrep q0)
    go_ret
    exact ⟨rfl, unhide HB1⟩
  · have HR := hide (rat_out n hn w h hi)
    clear h hi hn hc
    go_enter Tryz.func38, Tryz.ntmps38
    go_wp2_with (go_at_call 65; refine (unhide HR).mono ?_; rintro e w1 ⟨rfl, hb1⟩; have HB1 := hide hb1; clear hb1)
    go_ret
    exact ⟨rfl, unhide HB1⟩
set_option maxHeartbeats 1000000 in
set_option maxRecDepth 20000 in
theorem rhold_many (n : Int) (w : World) (h : RefAt w r g fr l) (hi : In fr l n) (hc : cntS (sec fr l n) = 5000) :
    Calls Tryz.prog 38 #[.pointer (some ⟨r, 0, none⟩), .int .i64 n] w fun e w' => e = .returned (.int .i64 52) ∧ Below w.heap.size w w' := by
  have hlt := ix_lt hi
  have HR := hide (rat_in n w h hi)
  have HH := hide h
  have HI := hide hi
  have hlt' : (ix fr n : Int) < (l.length : Int) := by omega
  have HX := hide hc
  clear h hi hc
  go_enter Tryz.func38, Tryz.ntmps38
  go_wp2_with (go_at_call 65; refine (unhide HR).mono ?_; rintro e w1 ⟨rfl, hb1⟩; have hA := (unhide HH).grow hb1; have HB1 := hide hb1; have c1 := hA.cell1; obtain ⟨q, hq, hrep⟩ := hA.at (unhide HI); have q0 := hq.c0; rw [hrep.cnt, unhide HX] at q0; have q0' : w1.cell? ⟨g, ix fr n * 4, none⟩ = some (.int .i64 5000) := q0; clear hA hb1 hq hrep q0)
  go_ret
  exact ⟨rfl, unhide HB1⟩
set_option maxHeartbeats 1000000 in
set_option maxRecDepth 20000 in
theorem rhold_ok (n : Int) (w : World) (h : RefAt w r g fr l) (c : Nat) (gn : Int) (hs : sec fr l n = some (c + 1, gn)) (h5 : c + 1 ≠ 5000) :
    Calls Tryz.prog 38 #[.pointer (some ⟨r, 0, none⟩), .int .i64 n] w fun e w' => e = .returned (.int .i64 0) ∧ RefAt w' r g fr (upd fr l n (some (c + 2, gn))) ∧ Moves [g] w w' := by
  have hi := sec_some hs
  have hlt := ix_lt hi
  have HR := hide (rat_in n w h hi)
  have HH := hide h
  have HI := hide hi
  have hlt' : (ix fr n : Int) < (l.length : Int) := by omega
  have HX := hide hs
  have hgo := h.ok.sec n
  rw [hs] at hgo
  have hgo2 : c + 1 ≤ 5000 ∧ I64 gn := hgo
  have HG := hide hgo2
  have H5 := hide h5
  obtain ⟨x, hx⟩ : ∃ x : Int, x = (c : Int) + 1 := ⟨_, rfl⟩
  have x0 : (x == 0) = false := beq_false_of_ne (by omega)
  have x5 : ¬ x = 5000 := by omega
  have n0 : decide ((ix fr n : Int) < 0) = false := decide_eq_false (by omega)
  have hw : IntKind.i64.wrap (x + 1) = x + 1 := by rw [IntKind.wrap_i64]; omega
  have HXX := hide hx
  clear h hi hs hgo hgo2 h5 hx
  go_enter Tryz.func38, Tryz.ntmps38
  go_wp2_with (go_at_call 65; refine (unhide HR).mono ?_; rintro e w1 ⟨rfl, hb1⟩; have hA := (unhide HH).grow hb1; have HA := hide hA; have HB1 := hide hb1; have c1 := hA.cell1; have hf := hA.free; obtain ⟨q, hq, hrep⟩ := hA.at (unhide HI); rw [unhide HX] at hrep; have q0 := hq.c0; rw [hrep.1, ← unhide HXX] at q0; have HQ := hide (And.intro hq hrep); clear hA hb1 hq hrep)
  go_ret
  rw [upd_in _ (unhide HI)]
  have hrep := (unhide HQ).2
  exact ⟨rfl, (unhide HA).set0 (c := x + 1) (s := some (c + 2, gn)) hlt (unhide HQ).1 ⟨by show x + 1 = ((c + 1 : Nat) : Int) + 1; have := unhide HXX; omega, hrep.2.1, hrep.2.2⟩ ⟨by have := (unhide HG).1; have := unhide H5; omega, (unhide HG).2⟩, (Moves.of_below _ (unhide HB1)).then (Moves.set _ _ _ _ (by simp))⟩
theorem rhold_any (n : Int) (w : World) (h : RefAt w r g fr l) (hn : I64 n) :
    Calls Tryz.prog 38 #[.pointer (some ⟨r, 0, none⟩), .int .i64 n] w fun e w' => e = .returned (.int .i64 (holdE fr l n)) ∧ RefAt w' r g fr (holdM fr l n) ∧ Moves [g] w w' := by
  unfold holdE holdM
  by_cases h5 : cntS (sec fr l n) = 5000
  · rw [if_pos h5, if_pos h5, if_neg (by omega)]
    have hi : In fr l n := by
      by_cases hi : In fr l n
      · exact hi
      · rw [sec_none hi] at h5; cases h5
    refine (rhold_many n w h hi h5).mono ?_
    rintro e w' ⟨rfl, hb⟩
    exact ⟨rfl, h.grow hb, Moves.of_below _ hb⟩
  · rw [if_neg h5, if_neg h5]
    by_cases h0 : cntS (sec fr l n) = 0
    · have e2 : holdS (sec fr l n) = sec fr l n := by
        cases hs : sec fr l n with
        | none => rfl
        | some x => obtain ⟨c, g⟩ := x; rw [hs] at h0; change c = 0 at h0; subst h0; rfl
      rw [if_pos h0, e2, upd_same]
      refine (rhold_free n hn w h h0).mono ?_
      rintro e w' ⟨rfl, hb⟩
      exact ⟨rfl, h.grow hb, Moves.of_below _ hb⟩
    · rw [if_neg h0]
      cases hs : sec fr l n with
      | none => rw [hs] at h0; exact absurd rfl h0
      | some x =>
        obtain ⟨c, gn⟩ := x
        rw [hs] at h0 h5
        change ¬ c = 0 at h0
        change ¬ c = 5000 at h5
        obtain ⟨k, rfl⟩ : ∃ k, c = k + 1 := ⟨c - 1, by omega⟩
        exact rhold_ok n w h k gn hs h5
end Go.Proofs.YtdelobaiicoogaaGreatDoor.L5
