/- An allocator of the program in memory: New, Count, Mark, Hold. -/
import Derived.Test.YtkfpeffiphdhmaaSec
namespace Go.Proofs.Ytkfpeffiphdhmaa
open Go.ChangeShapes Go.WideShapes Go.ChangeAt Go.RowKit Go.Maps

def genS : St → Int
  | some (_, g) => g
  | none => 0
theorem secV_eq (s : St) : secV s = .agg #[.int .i64 (cntS s : Int), .int .i64 (genS s)] := by
  cases s with
  | none => rfl
  | some x => rfl

/-- an allocator in memory -/
structure AllocAt (w : World) (d b fr : Nat) (l : List St) : Prop where
  blk : w.heap[d]? = some (.cells #[.int .i64 (fr : Int), .int .i64 ((fr : Int) + (l.length : Int)), .map (some b)] 49 (0, 0))
  map : Sec w b fr l
  ok : Ok fr l

variable {w w' : World} {d b fr : Nat} {l : List St}

theorem AllocAt.cell0 (h : AllocAt w d b fr l) : w.cell? ⟨d, 0, none⟩ = some (.int .i64 (fr : Int)) := by simp [World.cell?, h.blk]
theorem AllocAt.cell1 (h : AllocAt w d b fr l) : w.cell? ⟨d, 1, none⟩ = some (.int .i64 ((fr : Int) + (l.length : Int))) := by simp [World.cell?, h.blk]
theorem AllocAt.cell2 (h : AllocAt w d b fr l) : w.cell? ⟨d, 2, none⟩ = some (.map (some b)) := by simp [World.cell?, h.blk]
theorem AllocAt.dlt (h : AllocAt w d b fr l) : d < w.heap.size := (Array.getElem?_eq_some_iff.1 h.blk).1
theorem AllocAt.ne (h : AllocAt w d b fr l) : d ≠ b := by
  intro e
  obtain ⟨es, cl, h1⟩ := h.map.kind
  have h0 := h.blk
  rw [e, h1] at h0
  cases h0
theorem AllocAt.same (h : AllocAt w d b fr l) (hd : w'.heap[d]? = w.heap[d]?) (hb : w'.heap[b]? = w.heap[b]?) : AllocAt w' d b fr l :=
  ⟨hd.trans h.blk, h.map.same hb, h.ok⟩
theorem AllocAt.keep {fq : List Nat} (h : AllocAt w d b fr l) (hm : Moves fq w w') (hd : d ∉ fq) (hb : b ∉ fq) : AllocAt w' d b fr l :=
  h.same (hm.block d h.dlt hd) (hm.block b h.map.lt hb)
theorem AllocAt.grow (h : AllocAt w d b fr l) (hm : Below w.heap.size w w') : AllocAt w' d b fr l :=
  h.keep (Moves.of_below [] hm) List.not_mem_nil List.not_mem_nil
/-- the map has turned -/
theorem AllocAt.turn (h : AllocAt w d b fr l) {l' : List St} (hg : w.grownBy w' (some b)) (hs : Sec w' b fr l') (hl : l'.length = l.length) (hok : Ok fr l') : AllocAt w' d b fr l' := by
  refine ⟨?_, hs, hok⟩
  rw [hl]
  exact (hg.block d h.dlt (by have := h.ne; simp; exact this)).trans h.blk

/-! New -/
set_option maxHeartbeats 1000000 in
set_option maxRecDepth 20000 in
theorem new_bad (f t : Int) (w : World) (h : f < 0 ∨ t < f ∨ 4096 < t) :
    Calls Try.prog 9 #[.int .i64 f, .int .i64 t] w fun e w' => e = .returned (.tuple #[.pointer none, .int .i64 1]) ∧ w' = w := by
  by_cases h1 : f < 0
  · go_enter Try.func9, Try.ntmps9
    go_wp2
    go_ret2
    simp
  · by_cases h2 : t < f
    · go_enter Try.func9, Try.ntmps9
      go_wp2
      go_ret2
      simp
    · have h3 : 4096 < t := by omega
      clear h
      go_enter Try.func9, Try.ntmps9
      go_wp2
      go_ret2
      simp
set_option maxHeartbeats 1000000 in
set_option maxRecDepth 20000 in
theorem new_ok (f t : Nat) (w : World) (h1 : f ≤ t) (h2 : t ≤ 4096) :
    Calls Try.prog 9 #[.int .i64 (f : Int), .int .i64 (t : Int)] w fun e w' => ∃ d b, e = .returned (.tuple #[.pointer (some ⟨d, 0, none⟩), .int .i64 0]) ∧ AllocAt w' d b f (newM f t) ∧ Below w.heap.size w w' ∧ w.heap.size ≤ d ∧ w.heap.size ≤ b := by
  have g1 : ¬ (f : Int) < 0 := by omega
  have g2 : ¬ (t : Int) < (f : Int) := by omega
  have g3 : ¬ (4096 : Int) < (t : Int) := by omega
  have hmm := @run_makeMap Try.prog
  have H1 := hide h1
  have H2 := hide h2
  clear h1 h2
  go_enter Try.func9, Try.ntmps9
  go_wp2
  go_ret2
  have h1 := unhide H1
  have h2 := unhide H2
  refine ⟨w.heap.size + 1, rfl, w.heap.size, ⟨?_, ?_, Ok.newM h1 h2⟩, ?_, ?_, ?_⟩
  · have e : ((newM f t).length : Int) = (t : Int) - (f : Int) := by unfold newM; rw [List.length_replicate]; omega
    rw [e, show (f : Int) + ((t : Int) - (f : Int)) = (t : Int) by omega]
    show ((w.heap.push _).push _)[w.heap.size + 1]? = _
    rw [Array.getElem?_push, if_pos (by simp)]
  · exact (Sec.made w (t - f)).same (Below.heap_alloc _ _ _ (by simp))
  · exact ((Below.refl _ w).alloc (Nat.le_refl _) _).alloc (by simp) _
  · simp
  · exact Nat.le_refl _

/-! Count -/
theorem field56 (x y : Int) (w : World) : (Instr.field 56 (.agg #[.int .i64 x, .int .i64 y]) 0).run Try.prog w = .ok (.int .i64 x) w := by kernel_rfl
set_option maxHeartbeats 1000000 in
set_option maxRecDepth 20000 in
theorem count_any (n : Int) (hn : I64 n) (w : World) (h : AllocAt w d b fr l) :
    Calls Try.prog 21 #[.pointer (some ⟨d, 0, none⟩), .int .i64 n] w fun e w' => e = .returned (.int .i64 (cntS (sec fr l n) : Int)) ∧ w' = w := by
  have c2 := h.cell2
  have hl := (h.map.look_any hn).2
  rw [secV_eq] at hl
  generalize (cntS (sec fr l n) : Int) = c at *
  generalize genS (sec fr l n) = g at *
  have hf := field56 c g w
  clear h
  go_enter Try.func21, Try.ntmps21
  go_wp2
  go_ret
  exact ⟨rfl, rfl⟩
set_option maxHeartbeats 400000 in
theorem count_nil (n : Int) (w : World) : Calls Try.prog 21 #[.pointer none, .int .i64 n] w fun e w' => e = .returned (.int .i64 0) ∧ w' = w := by
  go_enter Try.func21, Try.ntmps21
  go_wp2
  go_ret
  exact ⟨rfl, rfl⟩

/-! Mark -/
set_option maxHeartbeats 400000 in
theorem mark_nil (n gen : Int) (w : World) : Calls Try.prog 13 #[.pointer none, .int .i64 n, .int .i64 gen] w fun e w' => e = .returned (.int .i64 2) ∧ w' = w := by
  go_enter Try.func13, Try.ntmps13
  go_wp2
  go_ret
  exact ⟨rfl, rfl⟩
set_option maxHeartbeats 1000000 in
set_option maxRecDepth 20000 in
theorem mark_out (n gen : Int) (w : World) (h : AllocAt w d b fr l) (hi : ¬ In fr l n) :
    Calls Try.prog 13 #[.pointer (some ⟨d, 0, none⟩), .int .i64 n, .int .i64 gen] w fun e w' => e = .returned (.int .i64 31) ∧ w' = w := by
  have c0 := h.cell0
  have c1 := h.cell1
  unfold In at hi
  clear h
  by_cases h1 : n < (fr : Int)
  · clear hi
    go_enter Try.func13, Try.ntmps13
    go_wp2
    go_ret
    simp
  · have h2 : (fr : Int) + (l.length : Int) ≤ n := by omega
    clear hi
    generalize (fr : Int) + (l.length : Int) = t at *
    go_enter Try.func13, Try.ntmps13
    go_wp2
    go_ret
    simp
set_option maxHeartbeats 1000000 in
set_option maxRecDepth 20000 in
theorem mark_there (n gen : Int) (w : World) (h : AllocAt w d b fr l) (hi : In fr l n) (hn : I64 n) (hs : (sec fr l n).isSome = true) :
    Calls Try.prog 13 #[.pointer (some ⟨d, 0, none⟩), .int .i64 n, .int .i64 gen] w fun e w' => e = .returned (.int .i64 103) ∧ Below w.heap.size w w' := by
  have c0 := h.cell0
  have c1 := h.cell1
  have c2 := h.cell2
  have hl := (h.map.look_any hn).1
  rw [secV_eq, hs] at hl
  have h1 : ¬ n < (fr : Int) := by unfold In at hi; omega
  have h2 : ¬ (fr : Int) + (l.length : Int) ≤ n := by unfold In at hi; omega
  clear h hi hn hs
  generalize (fr : Int) + (l.length : Int) = t at *
  generalize (cntS (sec fr l n) : Int) = c at *
  generalize genS (sec fr l n) = g at *
  go_enter Try.func13, Try.ntmps13
  go_wp2
  go_ret
  exact ⟨rfl, by first | exact (Below.refl _ w).alloc (Nat.le_refl _) _ | exact ((Below.refl _ w).alloc (Nat.le_refl _) _).setCell (by simp) _ _⟩

/-- a store into the map of sectors, as the walk meets it -/
theorem wp_store {ops : Array Oper} {rest : List Oper} {o : Oper} {a : Act} {Q : Exit → Act → World → Prop} {w : World} {n : Int} {c : Nat} {g : Int}
    (hg : o.guard = none) (mo x v : Operand) (hop : o.op = Op.mapUpdate 47 mo x v) (hm : a.eval mo = .map (some b)) (hx : a.eval x = .int .i64 n) (hv : a.eval v = .agg #[.int .i64 (c : Int), .int .i64 g])
    (h : Sec w b fr l) (hok : Ok fr l) (hi : In fr l n)
    (hK : ∀ w', Sec w' b fr (upd fr l n (some (c, g))) → w.grownBy w' (some b) → wpList Try.prog ops Q rest (a.put o.dst undef) w') :
    wpList Try.prog ops Q (o :: rest) a w := by
  refine wpList_plain hg fun K' hK' => ?_
  obtain ⟨w', hrun, r1, r2⟩ := h.store hok hi c g
  unfold Oper.wp
  simp [execOp, hop, hm, hx, hv, hrun, Result.andThen]
  exact hK' _ _ (hK w' r1 r2)
/-- .. and a deletion -/
theorem wp_del {ops : Array Oper} {rest : List Oper} {o : Oper} {a : Act} {Q : Exit → Act → World → Prop} {w : World} {n : Int}
    (hg : o.guard = none) (mo x : Operand) (hop : o.op = Op.call { callee := Callee.builtin Builtin.delete, args := #[mo, x], argTypes := #[47, 3] }) (hm : a.eval mo = .map (some b)) (hx : a.eval x = .int .i64 n)
    (h : Sec w b fr l) (hok : Ok fr l) (hi : In fr l n)
    (hK : ∀ w', Sec w' b fr (upd fr l n none) → w.grownBy w' (some b) → wpList Try.prog ops Q rest (a.put o.dst (.tuple #[])) w') :
    wpList Try.prog ops Q (o :: rest) a w := by
  refine wpList_plain hg fun K' hK' => ?_
  obtain ⟨w', hrun, r1, r2⟩ := h.del hok hi o.type
  unfold Oper.wp
  simp [execOp, hop, resolve, invoke, builtin, hm, hx, hrun, Result.andThen]
  exact hK' _ _ (hK w' r1 r2)

set_option maxHeartbeats 1000000 in
set_option maxRecDepth 20000 in
theorem mark_ok (n gen : Int) (w : World) (h : AllocAt w d b fr l) (hi : In fr l n) (hn : I64 n) (hg : I64 gen) (hs : sec fr l n = none) :
    Calls Try.prog 13 #[.pointer (some ⟨d, 0, none⟩), .int .i64 n, .int .i64 gen] w fun e w' => e = .returned (.int .i64 0) ∧ AllocAt w' d b fr (upd fr l n (some (1, gen))) ∧ Moves [b] w w' := by
  have c0 := h.cell0
  have c1 := h.cell1
  have c2 := h.cell2
  have hl0 := (h.map.look_any hn).1
  rw [hs] at hl0
  have hl : Sem.run Try.prog (Instr.lookup 47 (.map (some b)) (.int .i64 n) true) w = .ok (.tuple #[.agg #[.int .i64 0, .int .i64 0], .bool false]) w := hl0
  clear hl0
  have h1 : ¬ n < (fr : Int) := by unfold In at hi; omega
  have h2 : ¬ (fr : Int) + (l.length : Int) ≤ n := by unfold In at hi; omega
  have HA := hide (h.grow ((Below.refl _ w).alloc (Nat.le_refl _) (.cells #[.int .i64 0, .int .i64 0] 56)))
  have q2 := (unhide HA).cell2
  have HI := hide hi
  have HG := hide hg
  clear h hi hn hs hg
  generalize (fr : Int) + (l.length : Int) = t at *
  go_enter Try.func13, Try.ntmps13
  go_wp2_with (at_mapUpdate; refine wp_store (c := 1) rfl _ _ _ rfl rfl rfl rfl (unhide HA).map (unhide HA).ok (unhide HI) ?_; intro w3 hs3 hg3; have HX := hide (And.intro hs3 hg3); clear hs3 hg3)
  go_ret
  obtain ⟨hs3, hg3⟩ := unhide HX
  exact ⟨rfl, (unhide HA).turn hg3 hs3 (upd_length _ _ _ _) ((unhide HA).ok.upd _ ⟨by decide, unhide HG⟩), (Moves.alloc _ w _).then (Moves.of_grown hg3 (by simp))⟩
theorem mark_any (n gen : Int) (w : World) (h : AllocAt w d b fr l) (hn : I64 n) (hg : I64 gen) :
    Calls Try.prog 13 #[.pointer (some ⟨d, 0, none⟩), .int .i64 n, .int .i64 gen] w fun e w' => e = .returned (.int .i64 (markE fr l n)) ∧ AllocAt w' d b fr (markM fr l n gen) ∧ Moves [b] w w' := by
  unfold markE markM
  by_cases hi : In fr l n
  · rw [if_pos hi]
    cases hs : sec fr l n with
    | none =>
      rw [if_pos rfl, if_pos rfl]
      exact mark_ok n gen w h hi hn hg hs
    | some x =>
      rw [if_neg (by simp), if_neg (by simp)]
      refine (mark_there n gen w h hi hn (by rw [hs]; rfl)).mono ?_
      rintro e w' ⟨rfl, hb⟩
      exact ⟨rfl, h.grow hb, Moves.of_below _ hb⟩
  · rw [if_neg hi, sec_none hi, if_pos rfl]
    refine (mark_out n gen w h hi).mono ?_
    rintro e w' ⟨rfl, rfl⟩
    have e : upd fr l n (some (1, gen)) = l := by unfold upd; rw [if_neg hi]
    rw [e]
    exact ⟨rfl, h, Moves.refl _ _⟩
end Go.Proofs.Ytkfpeffiphdhmaa
