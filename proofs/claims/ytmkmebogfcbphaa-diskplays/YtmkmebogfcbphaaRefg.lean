/- The document's disk: Copy. -/
import Derived.Test.YtmkmebogfcbphaaRefe
import Derived.Deep.RegionHeld3
namespace Go.Proofs.Ytmkmebogfcbphaa
open Go.ChangeShapes Go.WideShapes Go.ChangeAt Go.RowKit

variable {r : Nat} {m : Dk} {ov pv : Value}

theorem step_src {ops : Array Oper} {o : Oper} {a : Act} {K : Act → World → Prop} {Q : Exit → Act → World → Prop} {E : Prop} {t e : TypeId} {z : Value} {size bytes : Nat} {B : Nat} {w : World} {v src : Value} {n k : Nat} {xs ys : List Value}
    (hgd : o.guard = none) (ht : Try.prog.underlying t = some (.slice e)) (hinfo : (Try.prog.info? e).map (fun i => (i.zero, i.size, i.bytes)) = some (some z, size, bytes)) (hzs : z.cells.size = size) (hsz : 0 < size)
    (s x : Operand) (ho : o.op = .call { callee := .builtin .append, args := #[s, x], argTypes := #[t, t] })
    (hs : a.eval s = v) (hx : a.eval x = src) (hown : w.ownsRow B e size v n xs) (hsrc : w.ownsRow 0 e size src k ys) (h1 : ∀ u ∈ ys, u.oneCell' = true)
    (hl2 : n + k ≤ 140737488355328) (hlen : (n + k) * bytes ≤ 140737488355328) (hB : B ≤ w.heap.size)
    (h : ∀ v' w', w'.ownsRow B e size v' (n + k) (xs ++ ys) → w.grownBy w' v.ownBlock → (v'.ownBlock = v.ownBlock ∨ v'.ownBlock = some w.heap.size) → K (a.put o.dst v') w') :
    if Region.wanted o (yielded ops a.tmps) = true then Oper.wp Try.prog o a w K Q else E := by
  have hw : Region.wanted o (yielded ops a.tmps) = true := by simp [Region.wanted, hgd]
  rw [if_pos hw]
  obtain ⟨v', w', hr, r1, r2, r3⟩ := run_app_src ht hinfo hzs hsz B o.type w v src n k xs ys hown hsrc h1 hl2 hlen hB
  unfold Oper.wp execOp
  simp only [ho, resolve, invoke, builtin, Sem.run_bind, Sem.run_pure, Result.andThen_ok, List.map_toArray, List.map_cons, List.map_nil, hs, hx, hr]
  exact h v' w' r1 r2 r3

/-- what the statement reads while it makes the copy -/
theorem keepAlloc {w w' : World} {o : Obj} {r : Nat} {a b c d : Value} (h : Below w.heap.size w w' ∧ w'.cell? ⟨r, 0, none⟩ = some a ∧ w'.cell? ⟨r, 1, none⟩ = some b ∧ w'.cell? ⟨r, 2, none⟩ = some c ∧ w'.cell? ⟨r, 3, none⟩ = some d) :
    Below w.heap.size w (w'.alloc o) ∧ (w'.alloc o).cell? ⟨r, 0, none⟩ = some a ∧ (w'.alloc o).cell? ⟨r, 1, none⟩ = some b ∧ (w'.alloc o).cell? ⟨r, 2, none⟩ = some c ∧ (w'.alloc o).cell? ⟨r, 3, none⟩ = some d := by
  have hb : Below w'.heap.size w' (w'.alloc o) := (Below.refl _ _).alloc (Nat.le_refl _) o
  have hl : r < w'.heap.size := World.block_lt_of_cell? _ _ h.2.1
  exact ⟨h.1.alloc h.1.size o, (hb.cell hl).trans h.2.1, (hb.cell hl).trans h.2.2.1, (hb.cell hl).trans h.2.2.2.1, (hb.cell hl).trans h.2.2.2.2⟩
theorem keepKind {w w' : World} {B e size n : Nat} {v : Value} {xs : List Value} (hown : w.ownsRow B e size v n xs) (hg : w.grownBy w' v.ownBlock) {e' : TypeId} (hne : e ≠ e') {B' size' n' : Nat} {v' : Value} {xs' : List Value} (h : w.ownsRow B' e' size' v' n' xs') : w'.ownsRow B' e' size' v' n' xs' := by
  refine ownsRow_same h (fun g hg' => hg.block g (h.lt g hg').2 (fun e1 => ?_))
  obtain ⟨c1, h1⟩ := ownsRow_kind h hg'
  obtain ⟨c2, h2⟩ := ownsRow_kind hown e1.symm
  rw [h2] at h1
  simp at h1
  exact hne h1.2

theorem emptyRow {w : World} {g B : Nat} {e : TypeId} {size : Nat} (h : w.heap[g]? = some (.cells #[] e (0, 0))) (hB : B ≤ g) : w.ownsRow B e size (.slice (some ⟨g, 0, none⟩) 0 0) 0 [] :=
  ⟨by simp, .inr ⟨g, 0, #[], rfl, hB, h, Nat.le_refl _, Nat.zero_le _, by simp, by simp⟩⟩
/-- what has become of the world behind the append -/
structure Went (w w1 w2 : World) (e : TypeId) (size : Nat) (v : Value) (n : Nat) (xs : List Value) (g : Nat) : Prop where
  own : w2.ownsRow w.heap.size e size v n xs
  grown : w1.grownBy w2 (some g)
  kind : w1.heap[g]? = some (.cells #[] e (0, 0))
  low : w.heap.size ≤ g
theorem Went.other {w w1 w2 : World} {e : TypeId} {size : Nat} {v : Value} {n : Nat} {xs : List Value} {g : Nat} (h : Went w w1 w2 e size v n xs g) {g2 : Nat} {e2 : TypeId} {c2 : Array Value} (h2 : w1.heap[g2]? = some (.cells c2 e2 (0, 0))) (hne : e ≠ e2) : w2.heap[g2]? = some (.cells c2 e2 (0, 0)) := by
  refine (h.grown.block g2 (Array.getElem?_eq_some_iff.1 h2).1 (fun e1 => ?_)).trans h2
  have e2' := Option.some.inj e1
  subst e2'
  rw [h.kind] at h2
  simp at h2
  exact hne h2.2
theorem Went.row {w w1 w2 : World} {e : TypeId} {size : Nat} {v : Value} {n : Nat} {xs : List Value} {g : Nat} (h : Went w w1 w2 e size v n xs g) {e' : TypeId} (hne : e ≠ e') {B' size' n' : Nat} {v' : Value} {xs' : List Value} (h' : w1.ownsRow B' e' size' v' n' xs') : w2.ownsRow B' e' size' v' n' xs' :=
  keepKind (emptyRow (size := size) h.kind h.low) h.grown hne h'
theorem keepWent {w w' w'' : World} {r : Nat} {a b c d : Value} {e : TypeId} {size : Nat} {v : Value} {n : Nat} {xs : List Value} {g : Nat} (h : Below w.heap.size w w' ∧ w'.cell? ⟨r, 0, none⟩ = some a ∧ w'.cell? ⟨r, 1, none⟩ = some b ∧ w'.cell? ⟨r, 2, none⟩ = some c ∧ w'.cell? ⟨r, 3, none⟩ = some d)
    (hr : r < w.heap.size) (hW : Went w w' w'' e size v n xs g) :
    Below w.heap.size w w'' ∧ w''.cell? ⟨r, 0, none⟩ = some a ∧ w''.cell? ⟨r, 1, none⟩ = some b ∧ w''.cell? ⟨r, 2, none⟩ = some c ∧ w''.cell? ⟨r, 3, none⟩ = some d := by
  have hl := hW.low
  have hn : some r ≠ some g := fun e => by
    have := Option.some.inj e
    omega
  exact ⟨h.1.grown hW.grown h.1.size (fun k hk => by cases hk; exact hl), hW.grown.cell h.2.1 hn, hW.grown.cell h.2.2.1 hn, hW.grown.cell h.2.2.2.1 hn, hW.grown.cell h.2.2.2.2 hn⟩
theorem heapNew {w : World} {o : Obj} {g : Nat} (h : g = w.heap.size) : (w.alloc o).heap[g]? = some o := by
  subst h
  show (w.heap.push o)[w.heap.size]? = _
  rw [Array.getElem?_push, if_pos rfl]
theorem heapNew2 {w : World} {o o2 : Obj} {g : Nat} (h : g = w.heap.size) : ((w.alloc o).alloc o2).heap[g]? = some o := by
  subst h
  rw [Below.heap_alloc _ _ _ (by simp)]
  exact heapNew rfl
theorem step_old {ops : Array Oper} {o : Oper} {a : Act} {K : Act → World → Prop} {Q : Exit → Act → World → Prop} {E : Prop} {w w1 : World} {g : Nat} (h : RefAt w r m ov pv)
    (hgd : o.guard = none) (s x : Operand) (ho : o.op = .call { callee := .builtin .append, args := #[s, x], argTypes := #[40, 40] }) (hs : a.eval s = .slice (some ⟨g, 0, none⟩) 0 0) (hx : a.eval x = ov)
    (hb : Below w.heap.size w w1) (hk : w1.heap[g]? = some (.cells #[] 9 (0, 0))) (hl : w.heap.size ≤ g)
    (hK : ∀ a' cap' w2, Went w w1 w2 9 1 (.slice a' m.old.length cap') m.old.length (strs m.old) g → K (a.put o.dst (.slice a' m.old.length cap')) w2) :
    if Region.wanted o (yielded ops a.tmps) = true then Oper.wp Try.prog o a w1 K Q else E := by
  have hmany := h.ok.many
  refine step_src (z := .string ByteArray.empty) (n := 0) (xs := []) hgd Try.underlying40 info9 rfl (by decide) s x ho hs hx (emptyRow hk hl) (ownsRow_same h.old (fun g hg => hb.block g (h.old.lt g hg).2)) (strs_one m.old) (by omega) (by omega) hb.size ?_
  intro v' w' h1 h2 _
  rw [Nat.zero_add, List.nil_append] at h1
  obtain ⟨a', cap', rfl⟩ := ownsRow_form h1
  exact hK a' cap' w' ⟨h1, h2, hk, hl⟩
theorem step_op {ops : Array Oper} {o : Oper} {a : Act} {K : Act → World → Prop} {Q : Exit → Act → World → Prop} {E : Prop} {w w1 : World} {g : Nat} (h : RefAt w r m ov pv) (hc : m.op.length ≤ 1000000)
    (hgd : o.guard = none) (s x : Operand) (ho : o.op = .call { callee := .builtin .append, args := #[s, x], argTypes := #[56, 56] }) (hs : a.eval s = .slice (some ⟨g, 0, none⟩) 0 0) (hx : a.eval x = pv)
    (hb : Below w.heap.size w w1) (hk : w1.heap[g]? = some (.cells #[] 82 (0, 0))) (hl : w.heap.size ≤ g)
    (hK : ∀ a' cap' w2, Went w w1 w2 82 2 (.slice a' m.op.length cap') m.op.length (opCells m.op) g → K (a.put o.dst (.slice a' m.op.length cap')) w2) :
    if Region.wanted o (yielded ops a.tmps) = true then Oper.wp Try.prog o a w1 K Q else E := by
  refine step_src (z := .agg #[.int .i64 0, .string ByteArray.empty]) (n := 0) (xs := []) hgd Try.underlying56 info82 rfl (by decide) s x ho hs hx (emptyRow hk hl) (ownsRow_same h.op (fun g hg => hb.block g (h.op.lt g hg).2)) (opCells_one m.op) (by omega) (by omega) hb.size ?_
  intro v' w' h1 h2 _
  rw [Nat.zero_add, List.nil_append] at h1
  obtain ⟨a', cap', rfl⟩ := ownsRow_form h1
  exact hK a' cap' w' ⟨h1, h2, hk, hl⟩

theorem refMade {w wE : World} (hok : Ok m) (hb : Below w.heap.size w wE) {vo vp : Value} (oa : wE.ownsRow w.heap.size 9 1 vo m.old.length (strs m.old)) (ob : wE.ownsRow w.heap.size 82 2 vp m.op.length (opCells m.op)) :
    ∃ r' fp', Ending.returned (.pointer (some ⟨wE.heap.size, 0, none⟩)) = .returned (.pointer (some ⟨r', 0, none⟩)) ∧ IsRef (wE.alloc (.cells #[vo, vp, .int .i64 m.left, .bool m.gone] 58)) r' m fp' ∧ Below w.heap.size w (wE.alloc (.cells #[vo, vp, .int .i64 m.left, .bool m.gone] 58)) ∧ ∀ x ∈ fp', w.heap.size ≤ x := by
  refine ⟨_, _, rfl, ⟨vo, vp, ⟨heapNew rfl, ownsRow_base (oa.alloc _) (Nat.zero_le _), ownsRow_base (ob.alloc _) (Nat.zero_le _), hok⟩, rfl⟩, hb.alloc hb.size _, fun x hx => ?_⟩
  simp [rfOf] at hx
  rcases hx with h | h | h
  · rw [h]; exact hb.size
  · exact (oa.lt x h).1
  · exact (ob.lt x h).1

set_option maxHeartbeats 4000000 in
set_option maxRecDepth 20000 in
theorem rcopy_at (w : World) (h : RefAt w r m ov pv) (hc : m.op.length ≤ 1000000) :
    Calls Try.prog 32 #[.pointer (some ⟨r, 0, none⟩)] w fun e w' => ∃ r' fp', e = .returned (.pointer (some ⟨r', 0, none⟩)) ∧ IsRef w' r' m fp' ∧ Below w.heap.size w w' ∧ ∀ x ∈ fp', w.heap.size ≤ x := by
  have c0 := h.cell0
  have c1 := h.cell1
  have c2 := h.cell2
  have c3 := h.cell3
  have hmany := h.ok.many
  obtain ⟨ao, capo, rfl⟩ := ownsRow_form h.old
  obtain ⟨ap, capp, rfl⟩ := ownsRow_form h.op
  have H := hide h
  have HRL := hide h.rlt
  clear h
  go_enter Try.func32, Try.ntmps32
  go_wp2_with fail
  go_region_held3 (fun w' => Below w.heap.size w w' ∧ w'.cell? ⟨r, 0, none⟩ = some (.slice ao m.old.length capo) ∧ w'.cell? ⟨r, 1, none⟩ = some (.slice ap m.op.length capp) ∧ w'.cell? ⟨r, 2, none⟩ = some (.int .i64 m.left) ∧ w'.cell? ⟨r, 3, none⟩ = some (.bool m.gone))
    (first | assumption | exact ⟨(Below.refl _ _).drew, c0, c1, c2, c3⟩ | exact SA | exact SB | exact keepAlloc (by assumption))
    (first
      | (refine step_old (unhide H) rfl _ _ rfl rfl rfl (And.left (by assumption)) (by first | exact heapNew (by first | rfl | simp) | exact heapNew2 (by first | rfl | simp) | exact WB.other (heapNew2 (by first | rfl | simp)) (by decide) | exact WB.other (heapNew (by first | rfl | simp)) (by decide)) (by first | exact Nat.le_refl _ | omega) ?_; intro aA capA wA WA; have SA := keepWent (by assumption) (unhide HRL) WA; have zA := SA.1.size)
      | (refine step_op (unhide H) hc rfl _ _ rfl rfl rfl (And.left (by assumption)) (by first | exact heapNew (by first | rfl | simp) | exact heapNew2 (by first | rfl | simp) | exact WA.other (heapNew2 (by first | rfl | simp)) (by decide) | exact WA.other (heapNew (by first | rfl | simp)) (by decide)) (by first | exact Nat.le_refl _ | omega) ?_; intro aB capB wB WB; have SB := keepWent (by assumption) (unhide HRL) WB; have zB := SB.1.size))
  all_goals go_wp2
  all_goals go_ret
  all_goals first
    | exact refMade (unhide H).ok SB.1 (by first | exact WB.row (by decide) WA.own | exact WB.row (by decide) (WA.own.alloc _)) WB.own
    | exact refMade (unhide H).ok SA.1 WA.own (by first | exact WA.row (by decide) WB.own | exact WA.row (by decide) (WB.own.alloc _))

theorem rcopy_any (fp : List Nat) (w : World) (h : IsRef w r m fp) (hc : m.op.length ≤ 1000000) :
    Calls Try.prog 32 #[.pointer (some ⟨r, 0, none⟩)] w fun e w' => ∃ r' fp', e = .returned (.pointer (some ⟨r', 0, none⟩)) ∧ IsRef w' r' m fp' ∧ Below w.heap.size w w' ∧ ∀ x ∈ fp', w.heap.size ≤ x := by
  obtain ⟨ov, pv, h, rfl⟩ := h
  exact rcopy_at w h hc
end Go.Proofs.Ytmkmebogfcbphaa
