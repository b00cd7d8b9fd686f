/- Texts that the proof needs, one behind the other. -/
import Derived.Test.YtdelobaiicoogaaGreatDoorMah
import Derived.Deep.RegionHeld3
import Derived.Deep.AppendLies
import Derived.Test.YtdelobaiicoogaaGreatDoorMae
import Derived.WalkMore
import Derived.Shelf.Pu.Clone
/- Appends to rows of one's own: one element more, what another row has (carried over from layer 3). -/
namespace Go.Proofs.YtdelobaiicoogaaGreatDoor.L6
open Go.ChangeShapes Go.WideShapes Go.ChangeAt Go.RowKit

theorem ownsRow_kind {w : World} {b : Nat} {e : TypeId} {size : Nat} {v : Value} {n : Nat} {xs : List Value} {g : Nat} (h : w.ownsRow b e size v n xs) (hv : v.ownBlock = some g) : ∃ cur, w.heap[g]? = some (.cells cur e (0, 0)) := by
  rcases h.2 with ⟨rfl, _⟩ | ⟨g', cap, cur, rfl, _, hg, _⟩
  · simp [Value.ownBlock] at hv
  · simp [Value.ownBlock] at hv
    subst hv
    exact ⟨cur, hg⟩
theorem ownsRow_same {w w' : World} {b : Nat} {e : TypeId} {size : Nat} {v : Value} {n : Nat} {xs : List Value} (h : w.ownsRow b e size v n xs) (hs : ∀ g, v.ownBlock = some g → w'.heap[g]? = w.heap[g]?) : w'.ownsRow b e size v n xs := by
  refine ⟨h.1, ?_⟩
  rcases h.2 with hn | ⟨g, cap, cur, rfl, hb, hgg, rest⟩
  · exact .inl hn
  · exact .inr ⟨g, cap, cur, rfl, hb, (hs g rfl).trans hgg, rest⟩
theorem ownsRow_form {w : World} {b : Nat} {e : TypeId} {size : Nat} {v : Value} {n : Nat} {xs : List Value} (h : w.ownsRow b e size v n xs) : ∃ a cap, v = .slice a n cap := by
  rcases h.2 with ⟨rfl, rfl⟩ | ⟨g, cap, cur, rfl, _⟩
  · exact ⟨_, _, rfl⟩
  · exact ⟨_, _, rfl⟩
/-- append of one element, which stands in a new block -/
theorem app_gen {ops : Array Oper} {rest : List Oper} {o : Oper} {a : Act} {Q : Exit → Act → World → Prop} {t e : TypeId} {z : Value} {size bytes : Nat} {B : Nat} {wr : World} {v : Value} {n : Nat} {xs news : List Value}
    (ht : Tryz.prog.underlying t = some (.slice e)) (hinfo : (Tryz.prog.info? e).map (fun i => (i.zero, i.size, i.bytes)) = some (some z, size, bytes)) (hzs : z.cells.size = size) (hsz : 0 < size)
    (hwant : Region.wanted o (yielded ops a.tmps) = true) (s x : Operand) (ho : o.op = .call { callee := .builtin .append, args := #[s, x], argTypes := #[t, t] })
    (hs : a.eval s = v) (hx : a.eval x = .slice (some ⟨wr.heap.size, 0, none⟩) 1 1) (hown : wr.ownsRow B e size v n xs) (hB : B ≤ wr.heap.size) (hnl : news.length = size) (h1 : ∀ u ∈ news, u.oneCell' = true) (hlen : (n + 1) * bytes ≤ 140737488355328) (hl2 : n + 1 ≤ 140737488355328)
    (h : ∀ a' cap' w', w'.ownsRow B e size (.slice a' (n + 1) cap') (n + 1) (xs ++ news) → wr.grownBy w' v.ownBlock → ((Value.slice a' (n + 1) cap').ownBlock = v.ownBlock ∨ ∃ g, (Value.slice a' (n + 1) cap').ownBlock = some g ∧ wr.heap.size ≤ g) → wpList Tryz.prog ops Q rest (a.put o.dst (.slice a' (n + 1) cap')) w') :
    wpList Tryz.prog ops Q (o :: rest) a (wr.alloc (.cells news.toArray e)) := by
  obtain ⟨i0, hi, hz0, hz1, hz2⟩ := info_parts hinfo
  obtain ⟨v', w', hr, ho', hg, _, hloc⟩ := run_append_own_at (P := Tryz.prog) (wr.alloc (.cells news.toArray e)) B t o.type e i0 z size bytes ht hi hz0 hz1 hz2 hzs hsz v n xs (World.ownsRow.alloc hown _) ⟨wr.heap.size, 0, none⟩ 1 1 news (by omega)
    (fun j u hj => by
      rw [Go.WideShapes.add_plain, Nat.zero_add]
      simpa using hj)
    h1 (by unfold maxLen; omega) hlen (by simp; omega)
  have hform : ∃ a' cap', v' = .slice a' (n + 1) cap' := by
    rcases ho'.2 with ⟨_, hn⟩ | ⟨g, cap, cur, e, _⟩
    · omega
    · exact ⟨_, _, e⟩
  obtain ⟨a', cap', rfl⟩ := hform
  refine BigFrame.wpList_want hwant fun K hK => ?_
  unfold Oper.wp execOp
  simp only [ho, resolve, invoke, builtin, Sem.run_bind, Sem.run_pure, Result.andThen_ok, List.map_toArray, List.map_cons, List.map_nil, hs, hx, hr]
  refine hK _ _ (h a' cap' w' ho' ⟨hg.os, hg.tape, hg.output, Nat.le_trans (by simp) hg.size, fun k hk hn => (hg.block k (by simp; omega) hn).trans (Below.heap_alloc _ _ _ hk)⟩ ?_)
  rcases hloc with h | h
  · exact .inl h
  · exact .inr ⟨_, h, by simp⟩
/-- append of what another slice has -/
theorem run_app_src {t e : TypeId} {z : Value} {size bytes : Nat} (ht : Tryz.prog.underlying t = some (.slice e)) (hinfo : (Tryz.prog.info? e).map (fun i => (i.zero, i.size, i.bytes)) = some (some z, size, bytes)) (hzs : z.cells.size = size) (hsz : 0 < size)
    (B : Nat) (ty : TypeId) (w : World) (v src : Value) (n k : Nat) (xs ys : List Value) (hown : w.ownsRow B e size v n xs) (hsrc : w.ownsRow 0 e size src k ys) (h1 : ∀ u ∈ ys, u.oneCell' = true)
    (hl2 : n + k ≤ 140737488355328) (hlen : (n + k) * bytes ≤ 140737488355328) (hB : B ≤ w.heap.size) :
    ∃ v' w', (Builtin.append_ #[t, t] ty #[v, src]).run Tryz.prog w = .ok v' w' ∧ w'.ownsRow B e size v' (n + k) (xs ++ ys) ∧ w.grownBy w' v.ownBlock ∧ (v'.ownBlock = v.ownBlock ∨ v'.ownBlock = some w.heap.size) := by
  obtain ⟨i0, hi, hz0, hz1, hz2⟩ := info_parts hinfo
  have hs := hsrc
  rcases hsrc.2 with ⟨rfl, rfl⟩ | ⟨g, cap, cur, rfl, _⟩
  · have hy : ys = [] := List.eq_nil_of_length_eq_zero (by simpa using hsrc.1)
    subst hy
    refine ⟨v, w, ?_, by rw [List.append_nil]; exact hown, ⟨rfl, rfl, rfl, Nat.le_refl _, fun _ _ _ => rfl⟩, .inl rfl⟩
    rcases hown.2 with ⟨rfl, hn⟩ | ⟨g, cp, cur, rfl, _, _, hnc, _⟩
    · simp [Builtin.append_, run_underlying ht, sizeOf, typeInfo, hi, Builtin.lenOf, Builtin.firstCells]
    · simp [Builtin.append_, run_underlying ht, sizeOf, typeInfo, hi, Builtin.lenOf, Builtin.firstCells, hnc, storeCells]
  · obtain ⟨v', w', hr, ho', hg, _, hloc⟩ := run_append_own_at (P := Tryz.prog) w B t ty e i0 z size bytes ht hi hz0 hz1 hz2 hzs hsz v n xs hown ⟨g, 0, none⟩ k cap ys hs.1 (hs.cells rfl) h1 (by unfold maxLen; omega) hlen hB
    exact ⟨v', w', hr, ho', hg, hloc⟩
theorem app_src {ops : Array Oper} {rest : List Oper} {o : Oper} {a : Act} {Q : Exit → Act → World → Prop} {t e : TypeId} {z : Value} {size bytes : Nat} {B : Nat} {w : World} {v src : Value} {n k : Nat} {xs ys : List Value}
    (ht : Tryz.prog.underlying t = some (.slice e)) (hinfo : (Tryz.prog.info? e).map (fun i => (i.zero, i.size, i.bytes)) = some (some z, size, bytes)) (hzs : z.cells.size = size) (hsz : 0 < size)
    (hwant : Region.wanted o (yielded ops a.tmps) = true) (s x : Operand) (ho : o.op = .call { callee := .builtin .append, args := #[s, x], argTypes := #[t, t] })
    (hs : a.eval s = v) (hx : a.eval x = src) (hown : w.ownsRow B e size v n xs) (hsrc : w.ownsRow 0 e size src k ys) (h1 : ∀ u ∈ ys, u.oneCell' = true)
    (hl2 : n + k ≤ 140737488355328) (hlen : (n + k) * bytes ≤ 140737488355328) (hB : B ≤ w.heap.size)
    (h : ∀ v' w', w'.ownsRow B e size v' (n + k) (xs ++ ys) → w.grownBy w' v.ownBlock → (v'.ownBlock = v.ownBlock ∨ v'.ownBlock = some w.heap.size) → wpList Tryz.prog ops Q rest (a.put o.dst v') w') :
    wpList Tryz.prog ops Q (o :: rest) a w := by
  obtain ⟨v', w', hr, r1, r2, r3⟩ := run_app_src ht hinfo hzs hsz B o.type w v src n k xs ys hown hsrc h1 hl2 hlen hB
  refine BigFrame.wpList_want hwant fun K hK => ?_
  unfold Oper.wp execOp
  simp only [ho, resolve, invoke, builtin, Sem.run_bind, Sem.run_pure, Result.andThen_ok, List.map_toArray, List.map_cons, List.map_nil, hs, hx, hr]
  exact hK _ _ (h v' w' r1 r2 r3)
/-- an empty row in new memory -/
theorem ownsRow_empty (w : World) (e : TypeId) (size : Nat) : (w.alloc (.cells #[] e)).ownsRow w.heap.size e size (.slice (some ⟨w.heap.size, 0, none⟩) 0 0) 0 [] :=
  World.ownsRow_made w #[] 0 (Nat.le_refl _) (Nat.zero_le _) (by simp)
theorem ownsRow_base {w : World} {B B' : Nat} {e : TypeId} {size : Nat} {v : Value} {n : Nat} {xs : List Value} (h : w.ownsRow B e size v n xs) (hB : B' ≤ B) : w.ownsRow B' e size v n xs := by
  refine ⟨h.1, ?_⟩
  rcases h.2 with h2 | ⟨g, cap, cur, e, hg, r⟩
  · exact .inl h2
  · exact .inr ⟨g, cap, cur, e, by omega, r⟩
/-- append of one element, where the order is drawn -/
theorem step_gen {ops : Array Oper} {o : Oper} {a : Act} {K : Act → World → Prop} {Q : Exit → Act → World → Prop} {E : Prop} {t e : TypeId} {z : Value} {size bytes : Nat} {B : Nat} {wr : World} {v : Value} {n : Nat} {xs news : List Value}
    (hgd : o.guard = none) (ht : Tryz.prog.underlying t = some (.slice e)) (hinfo : (Tryz.prog.info? e).map (fun i => (i.zero, i.size, i.bytes)) = some (some z, size, bytes)) (hzs : z.cells.size = size) (hsz : 0 < size)
    (s x : Operand) (ho : o.op = .call { callee := .builtin .append, args := #[s, x], argTypes := #[t, t] })
    (hs : a.eval s = v) (hx : a.eval x = .slice (some ⟨wr.heap.size, 0, none⟩) 1 1) (hown : wr.ownsRow B e size v n xs) (hB : B ≤ wr.heap.size) (hnl : news.length = size) (h1 : ∀ u ∈ news, u.oneCell' = true) (hlen : (n + 1) * bytes ≤ 140737488355328) (hl2 : n + 1 ≤ 140737488355328)
    (h : ∀ a' cap' w', w'.ownsRow B e size (.slice a' (n + 1) cap') (n + 1) (xs ++ news) → wr.grownBy w' v.ownBlock → ((Value.slice a' (n + 1) cap').ownBlock = v.ownBlock ∨ ∃ g, (Value.slice a' (n + 1) cap').ownBlock = some g ∧ wr.heap.size ≤ g) → K (a.put o.dst (.slice a' (n + 1) cap')) w') :
    if Region.wanted o (yielded ops a.tmps) = true then Oper.wp Tryz.prog o a (wr.alloc (.cells news.toArray e)) K Q else E := by
  have hw : Region.wanted o (yielded ops a.tmps) = true := by simp [Region.wanted, hgd]
  rw [if_pos hw]
  obtain ⟨i0, hi, hz0, hz1, hz2⟩ := info_parts hinfo
  obtain ⟨v', w', hr, ho', hg, _, hloc⟩ := run_append_own_at (P := Tryz.prog) (wr.alloc (.cells news.toArray e)) B t o.type e i0 z size bytes ht hi hz0 hz1 hz2 hzs hsz v n xs (World.ownsRow.alloc hown _) ⟨wr.heap.size, 0, none⟩ 1 1 news (by omega)
    (fun j u hj => by
      rw [Go.WideShapes.add_plain, Nat.zero_add]
      simpa using hj)
    h1 (by unfold maxLen; omega) hlen (by simp; omega)
  have hform : ∃ a' cap', v' = .slice a' (n + 1) cap' := by
    rcases ho'.2 with ⟨_, hn⟩ | ⟨g, cap, cur, e, _⟩
    · omega
    · exact ⟨_, _, e⟩
  obtain ⟨a', cap', rfl⟩ := hform
  unfold Oper.wp execOp
  simp only [ho, resolve, invoke, builtin, Sem.run_bind, Sem.run_pure, Result.andThen_ok, List.map_toArray, List.map_cons, List.map_nil, hs, hx, hr]
  refine h a' cap' w' ho' ⟨hg.os, hg.tape, hg.output, Nat.le_trans (by simp) hg.size, fun k hk hn => (hg.block k (by simp; omega) hn).trans (Below.heap_alloc _ _ _ hk)⟩ ?_
  rcases hloc with h | h
  · exact .inl h
  · exact .inr ⟨_, h, by simp⟩
theorem step_src {ops : Array Oper} {o : Oper} {a : Act} {K : Act → World → Prop} {Q : Exit → Act → World → Prop} {E : Prop} {t e : TypeId} {z : Value} {size bytes : Nat} {B : Nat} {w : World} {v src : Value} {n k : Nat} {xs ys : List Value}
    (hgd : o.guard = none) (ht : Tryz.prog.underlying t = some (.slice e)) (hinfo : (Tryz.prog.info? e).map (fun i => (i.zero, i.size, i.bytes)) = some (some z, size, bytes)) (hzs : z.cells.size = size) (hsz : 0 < size)
    (s x : Operand) (ho : o.op = .call { callee := .builtin .append, args := #[s, x], argTypes := #[t, t] })
    (hs : a.eval s = v) (hx : a.eval x = src) (hown : w.ownsRow B e size v n xs) (hsrc : w.ownsRow 0 e size src k ys) (h1 : ∀ u ∈ ys, u.oneCell' = true)
    (hl2 : n + k ≤ 140737488355328) (hlen : (n + k) * bytes ≤ 140737488355328) (hB : B ≤ w.heap.size)
    (h : ∀ v' w', w'.ownsRow B e size v' (n + k) (xs ++ ys) → w.grownBy w' v.ownBlock → (v'.ownBlock = v.ownBlock ∨ v'.ownBlock = some w.heap.size) → K (a.put o.dst v') w') :
    if Region.wanted o (yielded ops a.tmps) = true then Oper.wp Tryz.prog o a w K Q else E := by
  have hw : Region.wanted o (yielded ops a.tmps) = true := by simp [Region.wanted, hgd]
  rw [if_pos hw]
  obtain ⟨v', w', hr, r1, r2, r3⟩ := run_app_src ht hinfo hzs hsz B o.type w v src n k xs ys hown hsrc h1 hl2 hlen hB
  unfold Oper.wp execOp
  simp only [ho, resolve, invoke, builtin, Sem.run_bind, Sem.run_pure, Result.andThen_ok, List.map_toArray, List.map_cons, List.map_nil, hs, hx, hr]
  exact h v' w' r1 r2 r3
theorem keepKind {w w' : World} {B e size n : Nat} {v : Value} {xs : List Value} (hown : w.ownsRow B e size v n xs) (hg : w.grownBy w' v.ownBlock) {e' : TypeId} (hne : e ≠ e') {B' size' n' : Nat} {v' : Value} {xs' : List Value} (h : w.ownsRow B' e' size' v' n' xs') : w'.ownsRow B' e' size' v' n' xs' := by
  refine ownsRow_same h (fun g hg' => hg.block g (h.lt g hg').2 (fun e1 => ?_))
  obtain ⟨c1, h1⟩ := ownsRow_kind h hg'
  obtain ⟨c2, h2⟩ := ownsRow_kind hown e1.symm
  rw [h2] at h1
  simp at h1
  exact hne h1.2
theorem emptyRow {w : World} {g B : Nat} {e : TypeId} {size : Nat} (h : w.heap[g]? = some (.cells #[] e (0, 0))) (hB : B ≤ g) : w.ownsRow B e size (.slice (some ⟨g, 0, none⟩) 0 0) 0 [] :=
  ⟨by simp, .inr ⟨g, 0, #[], rfl, hB, h, Nat.le_refl _, Nat.zero_le _, by simp, by simp⟩⟩
theorem info9 : (Tryz.prog.info? 9).map (fun i => (i.zero, i.size, i.bytes)) = some (some (.string ByteArray.empty), 1, 16) := by kernel_rfl
theorem info58 : (Tryz.prog.info? 58).map (fun i => (i.zero, i.size, i.bytes)) = some (some (.agg #[.string ByteArray.empty, .string ByteArray.empty]), 2, 32) := by kernel_rfl
theorem info76 : (Tryz.prog.info? 76).map (fun i => (i.zero, i.size, i.bytes)) = some (some (.agg #[.string ByteArray.empty, .int .i64 0]), 2, 24) := by kernel_rfl
theorem info38 : (Tryz.prog.info? 38).map (fun i => (i.zero, i.size, i.bytes)) = some (some (.agg #[.bool false, .slice none 0 0, .slice none 0 0]), 3, 56) := by kernel_rfl
end Go.Proofs.YtdelobaiicoogaaGreatDoor.L6

/- What stands ahead: the closure that tells an error, and the numbers at the beginning of a text. -/
namespace Go.Proofs.YtdelobaiicoogaaGreatDoor.L6
open Go.ChangeShapes Go.WideShapes Go.ChangeAt Go.RowKit

/-- a reader in memory -/
def Rd (w : World) (r : Nat) (L : ByteArray) (e : Nat) : Prop := w.heap[r]? = some (.cells #[.string L, .int .i64 (e : Int)] 334 (0, 0))
theorem Rd.cell0 {w : World} {r e : Nat} {L : ByteArray} (h : Rd w r L e) : w.cell? ⟨r, 0, none⟩ = some (.string L) := by
  unfold Rd at h
  simp [World.cell?, h]
theorem Rd.cell1 {w : World} {r e : Nat} {L : ByteArray} (h : Rd w r L e) : w.cell? ⟨r, 1, none⟩ = some (.int .i64 (e : Int)) := by
  unfold Rd at h
  simp [World.cell?, h]
theorem Rd.free {w : World} {r e : Nat} {L : ByteArray} (h : Rd w r L e) (i : Nat) : w.frozen? ⟨r, i, none⟩ = false := by
  unfold Rd at h
  simp [World.frozen?, h]
theorem Rd.lt {w : World} {r e : Nat} {L : ByteArray} (h : Rd w r L e) : r < w.heap.size := (Array.getElem?_eq_some_iff.1 h).1
theorem Rd.setErr {w : World} {r e : Nat} {L : ByteArray} (h : Rd w r L e) (e' : Nat) : Rd (w.setCell ⟨r, 1, none⟩ (.int .i64 (e' : Int))) r L e' := by
  unfold Rd at *
  simp [World.setCell, Array.getElem?_modify, h]
theorem Rd.setLeft {w : World} {r e : Nat} {L : ByteArray} (h : Rd w r L e) (L' : ByteArray) : Rd (w.setCell ⟨r, 0, none⟩ (.string L')) r L' e := by
  unfold Rd at *
  simp [World.setCell, Array.getElem?_modify, h]

theorem full_of {s : ByteArray} (h : 0 < s.size) : s.toList.isEmpty = false := by
  rw [ByteArray.toList_eq, List.isEmpty_eq_false_iff]
  intro e
  have : s.data.toList.length = 0 := by rw [e]; rfl
  rw [Array.length_toList] at this
  exact absurd this (Nat.ne_of_gt h)

/-- the closure tells an error: it is the reader's -/
def tellW (w : World) (r er : Nat) : World := if er = 0 then w else w.setCell ⟨r, 1, none⟩ (.int .i64 (er : Int))

set_option maxHeartbeats 400000 in
theorem tell40 (x : Int) (c r e : Nat) (L : ByteArray) (w : World) (hc : w.cell? ⟨c, 0, none⟩ = some (.pointer (some ⟨r, 0, none⟩))) (hr : Rd w r L e) :
    Calls Tryz.prog 247 #[.int .i64 x, .pointer (some ⟨c, 0, none⟩)] w fun e w' => e = .returned (.tuple #[]) ∧ w' = w.setCell ⟨r, 1, none⟩ (.int .i64 x) := by
  have h1 := hr.cell1
  have hf := hr.free 1
  clear hr
  go_enter Tryz.func247, Tryz.ntmps247
  go_wp2
  go_end0
  exact ⟨rfl, rfl⟩
set_option maxHeartbeats 400000 in
theorem tell41 (x : Int) (c r e : Nat) (L : ByteArray) (w : World) (hc : w.cell? ⟨c, 0, none⟩ = some (.pointer (some ⟨r, 0, none⟩))) (hr : Rd w r L e) :
    Calls Tryz.prog 248 #[.int .i64 x, .pointer (some ⟨c, 0, none⟩)] w fun e w' => e = .returned (.tuple #[]) ∧ w' = w.setCell ⟨r, 1, none⟩ (.int .i64 x) := by
  have h1 := hr.cell1
  have hf := hr.free 1
  clear hr
  go_enter Tryz.func248, Tryz.ntmps248
  go_wp2
  go_end0
  exact ⟨rfl, rfl⟩
set_option maxHeartbeats 400000 in
theorem tell42 (x : Int) (c r e : Nat) (L : ByteArray) (w : World) (hc : w.cell? ⟨c, 0, none⟩ = some (.pointer (some ⟨r, 0, none⟩))) (hr : Rd w r L e) :
    Calls Tryz.prog 270 #[.int .i64 x, .pointer (some ⟨c, 0, none⟩)] w fun e w' => e = .returned (.tuple #[]) ∧ w' = w.setCell ⟨r, 1, none⟩ (.int .i64 x) := by
  have h1 := hr.cell1
  have hf := hr.free 1
  clear hr
  go_enter Tryz.func270, Tryz.ntmps270
  go_wp2
  go_end0
  exact ⟨rfl, rfl⟩

set_option maxHeartbeats 400000 in
theorem byteAhead_none (c r e : Nat) (L s : ByteArray) (w : World) (hs : s.size = 0) (hc : w.cell? ⟨c, 0, none⟩ = some (.pointer (some ⟨r, 0, none⟩))) (hr : Rd w r L e) :
    Calls Tryz.prog 224 #[.string s, .func (.func 247) #[] #[.pointer (some ⟨c, 0, none⟩)]] w fun e w' => e = .returned (.tuple #[.int .u8 0, .int .i64 0]) ∧ w' = w.setCell ⟨r, 1, none⟩ (.int .i64 20) := by
  obtain rfl : s = ⟨#[]⟩ := ByteArray.ext (Array.eq_empty_of_size_eq_zero hs)
  have HC := hide hc
  have HR := hide hr
  clear hc hr hs
  go_enter Tryz.func224, Tryz.ntmps224
  go_wp2_with (go_at_call 247; refine (tell40 _ _ _ _ _ _ (unhide HC) (unhide HR)).mono ?_; rintro e w' ⟨rfl, rfl⟩)
  go_ret2
  exact ⟨rfl, rfl⟩
set_option maxHeartbeats 400000 in
theorem byteAhead_some (v : Value) (s : ByteArray) (w : World) (hs : 0 < s.size) :
    Calls Tryz.prog 224 #[.string s, v] w fun e w' => e = .returned (.tuple #[.int .u8 ((s[0]).toNat : Int), .int .i64 1]) ∧ w' = w := by
  have he := full_of hs
  go_enter Tryz.func224, Tryz.ntmps224
  go_wp2
  go_ret2
  exact ⟨rfl, rfl⟩

/-- where the loop over a short number stands -/
def At (s : ByteArray) (i n : Nat) : Prop := i ≤ 9 ∧ n < 2 ^ (7 * i) ∧ Pk.scan (bn s) = Pk.sc (10 - i) ((bn s).drop i) i n

theorem drop_at (s : ByteArray) (i : Nat) (h : i < s.size) : (bn s).drop i = s[i].toNat :: (bn s).drop (i + 1) := by
  rw [List.drop_eq_getElem_cons (by rw [bn_length]; exact h)]
  congr 1
  have := bn_at s i h
  rw [List.getElem?_eq_getElem (by rw [bn_length]; exact h)] at this
  exact Option.some.inj this
theorem At.bad {s : ByteArray} {i n : Nat} (h : At s i n) (hi : i < s.size) (hf : (i = 9 ∧ 1 < s[i].toNat) ∨ (0 < i ∧ s[i].toNat = 0)) : Pk.scan (bn s) = (0, 0, 21) := by
  obtain ⟨h9, _, he⟩ := h
  rw [he, drop_at s i hi, show 10 - i = (9 - i) + 1 by omega, Pk.sc, if_pos hf]
theorem At.stop {s : ByteArray} {i n : Nat} (h : At s i n) (hi : i < s.size) (hf : ¬ ((i = 9 ∧ 1 < s[i].toNat) ∨ (0 < i ∧ s[i].toNat = 0))) (hb : s[i].toNat < 128) : Pk.scan (bn s) = (n + s[i].toNat * 2 ^ (7 * i), i + 1, 0) := by
  obtain ⟨h9, _, he⟩ := h
  rw [he, drop_at s i hi, show 10 - i = (9 - i) + 1 by omega, Pk.sc, if_neg hf, if_pos hb]
theorem At.step {s : ByteArray} {i n : Nat} (h : At s i n) (hi : i < s.size) (hf : ¬ ((i = 9 ∧ 1 < s[i].toNat) ∨ (0 < i ∧ s[i].toNat = 0))) (hb : ¬ s[i].toNat < 128) : At s (i + 1) (n + (s[i].toNat - 128) * 2 ^ (7 * i)) := by
  obtain ⟨h9, hn, he⟩ := h
  have hlt := s[i].toNat_lt
  refine ⟨by omega, ?_, ?_⟩
  · rw [Pk.pow_step]
    generalize 2 ^ (7 * i) = p at *
    have : (s[i].toNat - 128) * p ≤ 127 * p := Nat.mul_le_mul_right _ (by omega)
    omega
  · rw [he, drop_at s i hi, show 10 - i = (9 - i) + 1 by omega, Pk.sc, if_neg hf, if_neg hb, show 10 - (i + 1) = 9 - i by omega]
theorem At.out {s : ByteArray} {i n : Nat} (h : At s i n) (hi : s.size ≤ i) : Pk.scan (bn s) = (0, 0, 20) := by
  obtain ⟨h9, _, he⟩ := h
  rw [he, List.drop_of_length_le (by rw [bn_length]; exact hi), show 10 - i = (9 - i) + 1 by omega, Pk.sc]

theorem ret2_int {k j : IntKind} {a a' b b' : Int} (h : a = a') (h' : b = b') : Ending.returned (.tuple #[.int k a, .int j b]) = .returned (.tuple #[.int k a', .int j b']) := by rw [h, h']
theorem int_eq {k : IntKind} {a b : Int} (h : a = b) : Value.int k a = .int k b := by rw [h]
theorem pow_le9 (i : Nat) (hi : i ≤ 9) : 2 ^ (7 * i) ≤ 9223372036854775808 := by
  have : 2 ^ (7 * i) ≤ 2 ^ 63 := Nat.pow_le_pow_right (by decide) (by omega)
  simpa using this
theorem or_at (n i b : Nat) (hi : i ≤ 9) (hn : n < 2 ^ (7 * i)) (hx : b * 2 ^ (7 * i) < 18446744073709551616) : bits .or .u64 (n : Int) ((b * 2 ^ (7 * i) : Nat) : Int) = ((n + b * 2 ^ (7 * i) : Nat) : Int) := by
  have := pow_le9 i hi
  rw [u64_or_nat n _ (by omega) hx]
  have := Nat.two_pow_add_eq_or_of_lt hn b
  rw [Nat.or_comm, Nat.mul_comm b, ← this, Nat.add_comm]
theorem wrap_at (x : Nat) (h : x < 18446744073709551616) : IntKind.u64.wrap (x : Int) = (x : Int) := by
  rw [IntKind.wrap_u64]
  omega
theorem shl_lt (i b : Nat) (hi : i ≤ 8) (hb : b < 128) : b * 2 ^ (7 * i) < 18446744073709551616 := by
  have h1 : 2 ^ (7 * i) ≤ 2 ^ 56 := Nat.pow_le_pow_right (by decide) (by omega)
  have h2 : b * 2 ^ (7 * i) ≤ 127 * 2 ^ 56 := Nat.mul_le_mul (by omega) h1
  omega
theorem cast_shl (b i : Nat) : (b : Int) * 2 ^ (7 * i) = ((b * 2 ^ (7 * i) : Nat) : Int) := by simp
theorem or_lo (n i b : Nat) (hn : n < 2 ^ (7 * i)) (hb : b < 128) (hi : i ≤ 8) : bits .or .u64 (n : Int) (IntKind.u64.wrap ((b : Int) * 2 ^ (7 * i))) = ((n + b * 2 ^ (7 * i) : Nat) : Int) := by
  have h := shl_lt i b hi hb
  rw [cast_shl, wrap_at _ h]
  exact or_at n i b (by omega) hn h
theorem or9 (n b : Nat) (hn : n < 2 ^ (7 * 9)) (hb : b ≤ 1) : bits .or .u64 (n : Int) ((b : Int) * 9223372036854775808) = ((n + b * 2 ^ (7 * 9) : Nat) : Int) := by
  have h := or_at n 9 b (by omega) hn (by omega)
  rw [← cast_shl] at h
  exact h
theorem or_hi (n i b : Nat) (hn : n < 2 ^ (7 * i)) (hb : ¬ b < 128) (hb' : b < 256) (hi : i ≤ 8) : bits .or .u64 (n : Int) (IntKind.u64.wrap (((b : Int) - 128) * 2 ^ (7 * i))) = ((n + (b - 128) * 2 ^ (7 * i) : Nat) : Int) := by
  have e : (b : Int) - 128 = ((b - 128 : Nat) : Int) := by omega
  rw [e]
  exact or_lo n i (b - 128) hn (by omega) hi

set_option maxRecDepth 10000 in
set_option maxHeartbeats 2000000 in
theorem shortAhead41 (c r e : Nat) (L s : ByteArray) (w : World) (hs : s.size ≤ maxLen) (hc : w.cell? ⟨c, 0, none⟩ = some (.pointer (some ⟨r, 0, none⟩))) (hr : Rd w r L e) :
    Calls Tryz.prog 253 #[.string s, .func (.func 248) #[] #[.pointer (some ⟨c, 0, none⟩)]] w fun e w' => ∃ n k er : Nat, Pk.scan (bn s) = (n, k, er) ∧ e = .returned (.tuple #[.int .u64 (n : Int), .int .i64 (k : Int)]) ∧ w' = tellW w r er := by
  unfold maxLen at hs
  have HC := hide hc
  have HR := hide hr
  clear hc hr
  go_enter Tryz.func253, Tryz.ntmps253
  go_wp2
  go_step3
  go_wp2
  go_step3
  go_wp2
  go_loop [6, 7, 12] (fun t u j => ∃ i n : Nat, i ≤ s.size ∧ j = .int .i64 i ∧ u = .int .i64 20 ∧ t = .int .u64 n ∧ At s i n) (fun _ _ j => s.size - (intOf j).toNat)
  case atStart => exact ⟨0, 0, by omega, rfl, rfl, rfl, by omega, by decide, rfl⟩
  case round =>
    obtain ⟨i, n, hi, rfl, rfl, rfl, hat⟩ := hrel
    have hi9 : i ≤ 9 := hat.1
    have HA := hide hat
    clear hat
    by_cases hlt : i < s.size
    · have hb : (s[i].toNat : Int) < 256 := by have := s[i].toNat_lt; omega
      by_cases hform : (i = 9 ∧ 1 < s[i].toNat) ∨ (0 < i ∧ s[i].toNat = 0)
      · have HF := hide ((unhide HA).bad hlt hform)
        by_cases h9 : i = 9
        · subst h9
          by_cases h1 : 1 < s[9].toNat
          · clear hform HA
            go_wp2_with (go_at_call 248; refine (tell41 _ _ _ _ _ _ (unhide HC) (unhide HR)).mono ?_; rintro e w' ⟨rfl, rfl⟩)
            try rw [Exit.noGoto_ret]
            go_ret2
            exact ⟨0, 0, 21, unhide HF, rfl, rfl⟩
          · have h0 : s[9].toNat = 0 := by omega
            clear hform HA h1
            go_wp2_with (go_at_call 248; refine (tell41 _ _ _ _ _ _ (unhide HC) (unhide HR)).mono ?_; rintro e w' ⟨rfl, rfl⟩)
            try rw [Exit.noGoto_ret]
            go_ret2
            exact ⟨0, 0, 21, unhide HF, rfl, rfl⟩
        · have h0 : s[i].toNat = 0 := by omega
          have hi0 : 0 < i := by omega
          have h9' : ((i : Int) == 9) = false := beq_eq_false_iff_ne.2 (by omega)
          clear hform HA h9
          go_wp2_with (go_at_call 248; refine (tell41 _ _ _ _ _ _ (unhide HC) (unhide HR)).mono ?_; rintro e w' ⟨rfl, rfl⟩)
          try rw [Exit.noGoto_ret]
          go_ret2
          exact ⟨0, 0, 21, unhide HF, rfl, rfl⟩
      · have HF := hide hform
        by_cases h128 : s[i].toNat < 128
        · have HS := hide ((unhide HA).stop hlt hform h128)
          by_cases h9 : i = 9
          · subst h9
            have h1 : ¬ 1 < s[9].toNat := by omega
            have h0 : 0 < s[9].toNat := by omega
            have HE := hide (or9 n s[9].toNat (unhide HA).2.1 (by omega))
            clear hform HA
            go_wp2
            try rw [Exit.noGoto_ret]
            go_ret2
            exact ⟨_, _, 0, unhide HS, ret2_int (unhide HE) rfl, rfl⟩
          · have HE := hide (or_lo n i s[i].toNat (unhide HA).2.1 h128 (by omega))
            have h9' : ((i : Int) == 9) = false := beq_eq_false_iff_ne.2 (by omega)
            by_cases hi0 : 0 < i
            · have h0 : 0 < s[i].toNat := by omega
              clear hform HA h9
              go_wp2
              try rw [Exit.noGoto_ret]
              go_ret2
              exact ⟨_, _, 0, unhide HS, ret2_int (unhide HE) (by omega), rfl⟩
            · clear hform HA h9
              go_wp2
              try rw [Exit.noGoto_ret]
              go_ret2
              exact ⟨_, _, 0, unhide HS, ret2_int (unhide HE) (by omega), rfl⟩
        · have HS := hide ((unhide HA).step hlt hform h128)
          have h9 : ¬ i = 9 := by omega
          have HE := hide (or_hi n i s[i].toNat (unhide HA).2.1 h128 (by omega) (by omega))
          have h9' : ((i : Int) == 9) = false := beq_eq_false_iff_ne.2 (by omega)
          have h0 : 0 < s[i].toNat := by omega
          clear hform HA h9
          go_wp2
          all_goals go_round
          all_goals first | exact ⟨i + 1, _, by omega, by go_num, rfl, int_eq (unhide HE), unhide HS⟩ | (simp [intOf]; omega)
    · have HF := hide ((unhide HA).out (by omega))
      clear HA
      go_wp2_with (go_at_call 248; refine (tell41 _ _ _ _ _ _ (unhide HC) (unhide HR)).mono ?_; rintro e w' ⟨rfl, rfl⟩)
      try rw [Exit.noGoto_ret]
      go_ret2
      exact ⟨0, 0, 20, unhide HF, rfl, rfl⟩
end Go.Proofs.YtdelobaiicoogaaGreatDoor.L6

/- The short number at the beginning of a text, as a text's length; the copy of a text; the text at the beginning. -/
namespace Go.Proofs.YtdelobaiicoogaaGreatDoor.L6
open Go.ChangeShapes Go.WideShapes Go.ChangeAt Go.RowKit

set_option maxRecDepth 10000 in
set_option maxHeartbeats 2000000 in
theorem shortAhead42 (c r e : Nat) (L s : ByteArray) (w : World) (hs : s.size ≤ maxLen) (hc : w.cell? ⟨c, 0, none⟩ = some (.pointer (some ⟨r, 0, none⟩))) (hr : Rd w r L e) :
    Calls Tryz.prog 253 #[.string s, .func (.func 270) #[] #[.pointer (some ⟨c, 0, none⟩)]] w fun e w' => ∃ n k er : Nat, Pk.scan (bn s) = (n, k, er) ∧ e = .returned (.tuple #[.int .u64 (n : Int), .int .i64 (k : Int)]) ∧ w' = tellW w r er := by
  unfold maxLen at hs
  have HC := hide hc
  have HR := hide hr
  clear hc hr
  go_enter Tryz.func253, Tryz.ntmps253
  go_wp2
  go_step3
  go_wp2
  go_step3
  go_wp2
  go_loop [6, 7, 12] (fun t u j => ∃ i n : Nat, i ≤ s.size ∧ j = .int .i64 i ∧ u = .int .i64 20 ∧ t = .int .u64 n ∧ At s i n) (fun _ _ j => s.size - (intOf j).toNat)
  case atStart => exact ⟨0, 0, by omega, rfl, rfl, rfl, by omega, by decide, rfl⟩
  case round =>
    obtain ⟨i, n, hi, rfl, rfl, rfl, hat⟩ := hrel
    have hi9 : i ≤ 9 := hat.1
    have HA := hide hat
    clear hat
    by_cases hlt : i < s.size
    · have hb : (s[i].toNat : Int) < 256 := by have := s[i].toNat_lt; omega
      by_cases hform : (i = 9 ∧ 1 < s[i].toNat) ∨ (0 < i ∧ s[i].toNat = 0)
      · have HF := hide ((unhide HA).bad hlt hform)
        by_cases h9 : i = 9
        · subst h9
          by_cases h1 : 1 < s[9].toNat
          · clear hform HA
            go_wp2_with (go_at_call 270; refine (tell42 _ _ _ _ _ _ (unhide HC) (unhide HR)).mono ?_; rintro e w' ⟨rfl, rfl⟩)
            try rw [Exit.noGoto_ret]
            go_ret2
            exact ⟨0, 0, 21, unhide HF, rfl, rfl⟩
          · have h0 : s[9].toNat = 0 := by omega
            clear hform HA h1
            go_wp2_with (go_at_call 270; refine (tell42 _ _ _ _ _ _ (unhide HC) (unhide HR)).mono ?_; rintro e w' ⟨rfl, rfl⟩)
            try rw [Exit.noGoto_ret]
            go_ret2
            exact ⟨0, 0, 21, unhide HF, rfl, rfl⟩
        · have h0 : s[i].toNat = 0 := by omega
          have hi0 : 0 < i := by omega
          have h9' : ((i : Int) == 9) = false := beq_eq_false_iff_ne.2 (by omega)
          clear hform HA h9
          go_wp2_with (go_at_call 270; refine (tell42 _ _ _ _ _ _ (unhide HC) (unhide HR)).mono ?_; rintro e w' ⟨rfl, rfl⟩)
          try rw [Exit.noGoto_ret]
          go_ret2
          exact ⟨0, 0, 21, unhide HF, rfl, rfl⟩
      · have HF := hide hform
        by_cases h128 : s[i].toNat < 128
        · have HS := hide ((unhide HA).stop hlt hform h128)
          by_cases h9 : i = 9
          · subst h9
            have h1 : ¬ 1 < s[9].toNat := by omega
            have h0 : 0 < s[9].toNat := by omega
            have HE := hide (or9 n s[9].toNat (unhide HA).2.1 (by omega))
            clear hform HA
            go_wp2
            try rw [Exit.noGoto_ret]
            go_ret2
            exact ⟨_, _, 0, unhide HS, ret2_int (unhide HE) rfl, rfl⟩
          · have HE := hide (or_lo n i s[i].toNat (unhide HA).2.1 h128 (by omega))
            have h9' : ((i : Int) == 9) = false := beq_eq_false_iff_ne.2 (by omega)
            by_cases hi0 : 0 < i
            · have h0 : 0 < s[i].toNat := by omega
              clear hform HA h9
              go_wp2
              try rw [Exit.noGoto_ret]
              go_ret2
              exact ⟨_, _, 0, unhide HS, ret2_int (unhide HE) (by omega), rfl⟩
            · clear hform HA h9
              go_wp2
              try rw [Exit.noGoto_ret]
              go_ret2
              exact ⟨_, _, 0, unhide HS, ret2_int (unhide HE) (by omega), rfl⟩
        · have HS := hide ((unhide HA).step hlt hform h128)
          have h9 : ¬ i = 9 := by omega
          have HE := hide (or_hi n i s[i].toNat (unhide HA).2.1 h128 (by omega) (by omega))
          have h9' : ((i : Int) == 9) = false := beq_eq_false_iff_ne.2 (by omega)
          have h0 : 0 < s[i].toNat := by omega
          clear hform HA h9
          go_wp2
          all_goals go_round
          all_goals first | exact ⟨i + 1, _, by omega, by go_num, rfl, int_eq (unhide HE), unhide HS⟩ | (simp [intOf]; omega)
    · have HF := hide ((unhide HA).out (by omega))
      clear HA
      go_wp2_with (go_at_call 270; refine (tell42 _ _ _ _ _ _ (unhide HC) (unhide HR)).mono ?_; rintro e w' ⟨rfl, rfl⟩)
      try rw [Exit.noGoto_ret]
      go_ret2
      exact ⟨0, 0, 20, unhide HF, rfl, rfl⟩
end Go.Proofs.YtdelobaiicoogaaGreatDoor.L6

/- What the copy of a text is: the same bytes (the library's own contract of that function, laid at this program's numbers). -/
namespace Go.Proofs.YtdelobaiicoogaaGreatDoor.L6
open Go.ChangeShapes Go.WideShapes Go.ChangeAt Go.RowKit Go.Shelf

/-- the shelf's numbers, as this program has them -/
def ren : Ren := ⟨fun n => if n = 25 then 139 else n, fun n => if n = 37 then 140 else if n = 47 then 287 else n, fun n => n⟩
theorem lays : LaysPu.n25 Tryz.prog ren where
  mixed := by kernel_rfl
  f25 := by kernel_rfl
  t0 := by kernel_rfl
  a0 := fun _ => by kernel_rfl
  z0 := fun _ => by kernel_rfl
  v0 := fun _ => by kernel_rfl
  i0 := by kernel_rfl
  t3 := by kernel_rfl
  a3 := fun _ => by kernel_rfl
  z3 := fun _ => by kernel_rfl
  v3 := fun _ => by kernel_rfl
  i3 := by kernel_rfl
  t4 := by kernel_rfl
  a4 := fun _ => by kernel_rfl
  z4 := fun _ => by kernel_rfl
  v4 := fun _ => by kernel_rfl
  i4 := by kernel_rfl
  t5 := by kernel_rfl
  a5 := fun _ => by kernel_rfl
  z5 := fun _ => by kernel_rfl
  v5 := fun _ => by kernel_rfl
  i5 := by kernel_rfl
  t9 := by kernel_rfl
  a9 := fun _ => by kernel_rfl
  z9 := fun _ => by kernel_rfl
  v9 := fun _ => by kernel_rfl
  i9 := by kernel_rfl
  t37 := by kernel_rfl
  a37 := fun _ => by kernel_rfl
  z37 := fun _ => by kernel_rfl
  v37 := fun _ => by kernel_rfl
  i37 := by kernel_rfl
  t47 := by kernel_rfl
  a47 := fun _ => by kernel_rfl
  z47 := fun _ => by kernel_rfl
  v47 := fun _ => by kernel_rfl
  i47 := by kernel_rfl

theorem sclone_any (s : ByteArray) (w : World) (hlim : s.size ≤ 1000000) :
    Calls Tryz.prog 139 #[.string s] w fun e w' => e = .returned (.string s) ∧ Below w.heap.size w w' :=
  AnyPu.stringslite_Clone lays s w (by omega)

set_option maxHeartbeats 400000 in
theorem clone_any (s : ByteArray) (w : World) (hlim : s.size ≤ 1000000) :
    Calls Tryz.prog 106 #[.string s] w fun e w' => e = .returned (.string s) ∧ Below w.heap.size w w' := by
  go_enter Tryz.func106, Tryz.ntmps106
  go_wp2_with (go_at_call 139; refine (sclone_any _ _ hlim).mono ?_; rintro e w' ⟨rfl, hb⟩)
  go_ret
  exact ⟨rfl, hb⟩
end Go.Proofs.YtdelobaiicoogaaGreatDoor.L6
