/- Texts that the proof needs, one behind the other. -/
import Derived.Test.YtdelobaiicoogaaGreatDoorMal
/- An allocator of the program in memory: New, Count, Mark, Hold. -/
namespace Go.Proofs.YtdelobaiicoogaaGreatDoor.L5
open Go.ChangeShapes Go.WideShapes Go.ChangeAt Go.RowKit Go.Maps

def genS : St → Int
  | some (_, g) => g
  | none => 0
theorem secV_eq (s : St) : secV s = .agg #[.int .i64 (cntS s : Int), .int .i64 (genS s)] := by
  cases s with
  | none => rfl
  | some x => rfl

/-- an allocator in memory -/
structure AllocAt (w : World) (d b fr : Nat) (l : List St) : Prop where
  blk : w.heap[d]? = some (.cells #[.int .i64 (fr : Int), .int .i64 ((fr : Int) + (l.length : Int)), .map (some b)] 155 (0, 0))
  map : Sec w b fr l
  ok : Ok fr l

variable {w w' : World} {d b fr : Nat} {l : List St}

theorem AllocAt.cell0 (h : AllocAt w d b fr l) : w.cell? ⟨d, 0, none⟩ = some (.int .i64 (fr : Int)) := by simp [World.cell?, h.blk]
theorem AllocAt.cell1 (h : AllocAt w d b fr l) : w.cell? ⟨d, 1, none⟩ = some (.int .i64 ((fr : Int) + (l.length : Int))) := by simp [World.cell?, h.blk]
theorem AllocAt.cell2 (h : AllocAt w d b fr l) : w.cell? ⟨d, 2, none⟩ = some (.map (some b)) := by simp [World.cell?, h.blk]
theorem AllocAt.dlt (h : AllocAt w d b fr l) : d < w.heap.size := (Array.getElem?_eq_some_iff.1 h.blk).1
theorem AllocAt.ne (h : AllocAt w d b fr l) : d ≠ b := by
  intro e
  obtain ⟨es, cl, h1⟩ := h.map.kind
  have h0 := h.blk
  rw [e, h1] at h0
  cases h0
theorem AllocAt.same (h : AllocAt w d b fr l) (hd : w'.heap[d]? = w.heap[d]?) (hb : w'.heap[b]? = w.heap[b]?) : AllocAt w' d b fr l :=
  ⟨hd.trans h.blk, h.map.same hb, h.ok⟩
theorem AllocAt.keep {fq : List Nat} (h : AllocAt w d b fr l) (hm : Moves fq w w') (hd : d ∉ fq) (hb : b ∉ fq) : AllocAt w' d b fr l :=
  h.same (hm.block d h.dlt hd) (hm.block b h.map.lt hb)
theorem AllocAt.grow (h : AllocAt w d b fr l) (hm : Below w.heap.size w w') : AllocAt w' d b fr l :=
  h.keep (Moves.of_below [] hm) List.not_mem_nil List.not_mem_nil
/-- the map has turned -/
theorem AllocAt.turn (h : AllocAt w d b fr l) {l' : List St} (hg : w.grownBy w' (some b)) (hs : Sec w' b fr l') (hl : l'.length = l.length) (hok : Ok fr l') : AllocAt w' d b fr l' := by
  refine ⟨?_, hs, hok⟩
  rw [hl]
  exact (hg.block d h.dlt (by have := h.ne; simp; exact this)).trans h.blk

/-! New -/
set_option maxHeartbeats 1000000 in
set_option maxRecDepth 20000 in
theorem new_bad (f t : Int) (w : World) (h : f < 0 ∨ t < f ∨ 4096 < t) :
    Calls Tryz.prog 55 #[.int .i64 f, .int .i64 t] w fun e w' => e = .returned (.tuple #[.pointer none, .int .i64 1]) ∧ w' = w := by
  by_cases h1 : f < 0
  · go_enter Tryz.func55, Tryz.ntmps55
    go_wp2
    go_ret2
    simp
  · by_cases h2 : t < f
    · go_enter Tryz.func55, Tryz.ntmps55
      go_wp2
      go_ret2
      simp
    · have h3 : 4096 < t := by omega
      clear h
      go_enter Tryz.func55, Tryz.ntmps55
      go_wp2
      go_ret2
      simp
set_option maxHeartbeats 1000000 in
set_option maxRecDepth 20000 in
theorem new_ok (f t : Nat) (w : World) (h1 : f ≤ t) (h2 : t ≤ 4096) :
    Calls Tryz.prog 55 #[.int .i64 (f : Int), .int .i64 (t : Int)] w fun e w' => ∃ d b, e = .returned (.tuple #[.pointer (some ⟨d, 0, none⟩), .int .i64 0]) ∧ AllocAt w' d b f (newM f t) ∧ Below w.heap.size w w' ∧ w.heap.size ≤ d ∧ w.heap.size ≤ b := by
  have g1 : ¬ (f : Int) < 0 := by omega
  have g2 : ¬ (t : Int) < (f : Int) := by omega
  have g3 : ¬ (4096 : Int) < (t : Int) := by omega
  have hmm := @run_makeMap Tryz.prog
  have H1 := hide h1
  have H2 := hide h2
  clear h1 h2
  go_enter Tryz.func55, Tryz.ntmps55
  go_wp2
  go_ret2
  have h1 := unhide H1
  have h2 := unhide H2
  refine ⟨w.heap.size + 1, rfl, w.heap.size, ⟨?_, ?_, Ok.newM h1 h2⟩, ?_, ?_, ?_⟩
  · have e : ((newM f t).length : Int) = (t : Int) - (f : Int) := by unfold newM; rw [List.length_replicate]; omega
    rw [e, show (f : Int) + ((t : Int) - (f : Int)) = (t : Int) by omega]
    show ((w.heap.push _).push _)[w.heap.size + 1]? = _
    rw [Array.getElem?_push, if_pos (by simp)]
  · exact (Sec.made w (t - f)).same (Below.heap_alloc _ _ _ (by simp))
  · exact ((Below.refl _ w).alloc (Nat.le_refl _) _).alloc (by simp) _
  · simp
  · exact Nat.le_refl _

/-! Count -/
theorem field56 (x y : Int) (w : World) : (Instr.field 152 (.agg #[.int .i64 x, .int .i64 y]) 0).run Tryz.prog w = .ok (.int .i64 x) w := by kernel_rfl
set_option maxHeartbeats 1000000 in
set_option maxRecDepth 20000 in
theorem count_any (n : Int) (hn : I64 n) (w : World) (h : AllocAt w d b fr l) :
    Calls Tryz.prog 58 #[.pointer (some ⟨d, 0, none⟩), .int .i64 n] w fun e w' => e = .returned (.int .i64 (cntS (sec fr l n) : Int)) ∧ w' = w := by
  have c2 := h.cell2
  have hl := (h.map.look_any hn).2
  rw [secV_eq] at hl
  generalize (cntS (sec fr l n) : Int) = c at *
  generalize genS (sec fr l n) = g at *
  have hf := field56 c g w
  clear h
  go_enter Tryz.func58, Tryz.ntmps58
  go_wp2
  go_ret
  exact ⟨rfl, rfl⟩
/-! Mark -/
set_option maxHeartbeats 1000000 in
set_option maxRecDepth 20000 in
theorem mark_there (n gen : Int) (w : World) (h : AllocAt w d b fr l) (hi : In fr l n) (hn : I64 n) (hs : (sec fr l n).isSome = true) :
    Calls Tryz.prog 102 #[.pointer (some ⟨d, 0, none⟩), .int .i64 n, .int .i64 gen] w fun e w' => e = .returned (.int .i64 103) ∧ Below w.heap.size w w' := by
  have c0 := h.cell0
  have c1 := h.cell1
  have c2 := h.cell2
  have hl := (h.map.look_any hn).1
  rw [secV_eq, hs] at hl
  have h1 : ¬ n < (fr : Int) := by unfold In at hi; omega
  have h2 : ¬ (fr : Int) + (l.length : Int) ≤ n := by unfold In at hi; omega
  clear h hi hn hs
  generalize (fr : Int) + (l.length : Int) = t at *
  generalize (cntS (sec fr l n) : Int) = c at *
  generalize genS (sec fr l n) = g at *
  go_enter Tryz.func102, Tryz.ntmps102
  go_wp2
  go_ret
  exact ⟨rfl, by first | exact (Below.refl _ w).alloc (Nat.le_refl _) _ | exact ((Below.refl _ w).alloc (Nat.le_refl _) _).setCell (by simp) _ _⟩

/-- a store into the map of sectors, as the walk meets it -/
theorem wp_store {ops : Array Oper} {rest : List Oper} {o : Oper} {a : Act} {Q : Exit → Act → World → Prop} {w : World} {n : Int} {c : Nat} {g : Int}
    (hg : o.guard = none) (mo x v : Operand) (hop : o.op = Op.mapUpdate 153 mo x v) (hm : a.eval mo = .map (some b)) (hx : a.eval x = .int .i64 n) (hv : a.eval v = .agg #[.int .i64 (c : Int), .int .i64 g])
    (h : Sec w b fr l) (hok : Ok fr l) (hi : In fr l n)
    (hK : ∀ w', Sec w' b fr (upd fr l n (some (c, g))) → w.grownBy w' (some b) → wpList Tryz.prog ops Q rest (a.put o.dst undef) w') :
    wpList Tryz.prog ops Q (o :: rest) a w := by
  refine wpList_plain hg fun K' hK' => ?_
  obtain ⟨w', hrun, r1, r2⟩ := h.store hok hi c g
  unfold Oper.wp
  simp [execOp, hop, hm, hx, hv, hrun, Result.andThen]
  exact hK' _ _ (hK w' r1 r2)
/-- .. and a deletion -/
theorem wp_del {ops : Array Oper} {rest : List Oper} {o : Oper} {a : Act} {Q : Exit → Act → World → Prop} {w : World} {n : Int}
    (hg : o.guard = none) (mo x : Operand) (hop : o.op = Op.call { callee := Callee.builtin Builtin.delete, args := #[mo, x], argTypes := #[153, 3] }) (hm : a.eval mo = .map (some b)) (hx : a.eval x = .int .i64 n)
    (h : Sec w b fr l) (hok : Ok fr l) (hi : In fr l n)
    (hK : ∀ w', Sec w' b fr (upd fr l n none) → w.grownBy w' (some b) → wpList Tryz.prog ops Q rest (a.put o.dst (.tuple #[])) w') :
    wpList Tryz.prog ops Q (o :: rest) a w := by
  refine wpList_plain hg fun K' hK' => ?_
  obtain ⟨w', hrun, r1, r2⟩ := h.del hok hi o.type
  unfold Oper.wp
  simp [execOp, hop, resolve, invoke, builtin, hm, hx, hrun, Result.andThen]
  exact hK' _ _ (hK w' r1 r2)

set_option maxHeartbeats 1000000 in
set_option maxRecDepth 20000 in
theorem mark_ok (n gen : Int) (w : World) (h : AllocAt w d b fr l) (hi : In fr l n) (hn : I64 n) (hg : I64 gen) (hs : sec fr l n = none) :
    Calls Tryz.prog 102 #[.pointer (some ⟨d, 0, none⟩), .int .i64 n, .int .i64 gen] w fun e w' => e = .returned (.int .i64 0) ∧ AllocAt w' d b fr (upd fr l n (some (1, gen))) ∧ Moves [b] w w' := by
  have c0 := h.cell0
  have c1 := h.cell1
  have c2 := h.cell2
  have hl0 := (h.map.look_any hn).1
  rw [hs] at hl0
  have hl : Sem.run Tryz.prog (Instr.lookup 153 (.map (some b)) (.int .i64 n) true) w = .ok (.tuple #[.agg #[.int .i64 0, .int .i64 0], .bool false]) w := hl0
  clear hl0
  have h1 : ¬ n < (fr : Int) := by unfold In at hi; omega
  have h2 : ¬ (fr : Int) + (l.length : Int) ≤ n := by unfold In at hi; omega
  have HA := hide (h.grow ((Below.refl _ w).alloc (Nat.le_refl _) (.cells #[.int .i64 0, .int .i64 0] 152)))
  have q2 := (unhide HA).cell2
  have HI := hide hi
  have HG := hide hg
  clear h hi hn hs hg
  generalize (fr : Int) + (l.length : Int) = t at *
  go_enter Tryz.func102, Tryz.ntmps102
  go_wp2_with (at_mapUpdate; refine wp_store (c := 1) rfl _ _ _ rfl rfl rfl rfl (unhide HA).map (unhide HA).ok (unhide HI) ?_; intro w3 hs3 hg3; have HX := hide (And.intro hs3 hg3); clear hs3 hg3)
  go_ret
  obtain ⟨hs3, hg3⟩ := unhide HX
  exact ⟨rfl, (unhide HA).turn hg3 hs3 (upd_length _ _ _ _) ((unhide HA).ok.upd _ ⟨by decide, unhide HG⟩), (Moves.alloc _ w _).then (Moves.of_grown hg3 (by simp))⟩
end Go.Proofs.YtdelobaiicoogaaGreatDoor.L5

/- Hold. -/
namespace Go.Proofs.YtdelobaiicoogaaGreatDoor.L5
open Go.ChangeShapes Go.WideShapes Go.ChangeAt Go.RowKit Go.Maps

variable {w w' : World} {d b fr : Nat} {l : List St}

theorem count_is {n : Int} {c : Nat} (hn : I64 n) (w : World) (h : AllocAt w d b fr l) (hc : cntS (sec fr l n) = c) :
    Calls Tryz.prog 58 #[.pointer (some ⟨d, 0, none⟩), .int .i64 n] w fun e w' => e = .returned (.int .i64 (c : Int)) ∧ w' = w := by
  subst hc
  exact count_any n hn w h
set_option maxHeartbeats 1000000 in
set_option maxRecDepth 20000 in
theorem hold_free (n : Int) (w : World) (h : AllocAt w d b fr l) (hn : I64 n) (hc : cntS (sec fr l n) = 0) :
    Calls Tryz.prog 28 #[.pointer (some ⟨d, 0, none⟩), .int .i64 n] w fun e w' => e = .returned (.int .i64 51) ∧ w' = w := by
  have HC := hide (count_is hn w h hc)
  clear h hn hc
  go_enter Tryz.func28, Tryz.ntmps28
  go_wp2_with (go_at_call 58; refine (unhide HC).mono ?_; rintro e w' ⟨rfl, rfl⟩)
  go_ret
  exact ⟨rfl, rfl⟩
set_option maxHeartbeats 1000000 in
set_option maxRecDepth 20000 in
theorem hold_many (n : Int) (w : World) (h : AllocAt w d b fr l) (hn : I64 n) (hc : cntS (sec fr l n) = 5000) :
    Calls Tryz.prog 28 #[.pointer (some ⟨d, 0, none⟩), .int .i64 n] w fun e w' => e = .returned (.int .i64 52) ∧ w' = w := by
  have HC := hide (count_is hn w h hc)
  clear h hn hc
  go_enter Tryz.func28, Tryz.ntmps28
  go_wp2_with (go_at_call 58; refine (unhide HC).mono ?_; rintro e w' ⟨rfl, rfl⟩)
  go_ret
  exact ⟨rfl, rfl⟩
set_option maxHeartbeats 2000000 in
set_option maxRecDepth 20000 in
theorem hold_ok (n : Int) (w : World) (h : AllocAt w d b fr l) (hn : I64 n) (c : Nat) (g : Int) (hs : sec fr l n = some (c, g)) (h0 : c ≠ 0) (h5 : c ≠ 5000) :
    Calls Tryz.prog 28 #[.pointer (some ⟨d, 0, none⟩), .int .i64 n] w fun e w' => e = .returned (.int .i64 0) ∧ AllocAt w' d b fr (upd fr l n (some (c + 1, g))) ∧ Moves [b] w w' := by
  have c2 := h.cell2
  have hl := (h.map.look_any hn).2
  rw [hs] at hl
  have hl2 : Sem.run Tryz.prog (Instr.lookup 153 (.map (some b)) (.int .i64 n) false) w = .ok (.agg #[.int .i64 (c : Int), .int .i64 g]) w := hl
  clear hl
  have hgood := h.ok.sec n
  rw [hs] at hgood
  have hgo : c ≤ 5000 ∧ I64 g := hgood
  have hw : IntKind.i64.wrap ((c : Int) + 1) = (c : Int) + 1 := by rw [IntKind.wrap_i64]; omega
  have k0 : ¬ (c : Int) = 0 := by omega
  have k5 : ¬ (c : Int) = 5000 := by omega
  have HC := hide (count_is (c := c) hn w h (by rw [hs]; rfl))
  have hi := sec_some hs
  have HI := hide hi
  have HGO := hide hgo
  have H5 := hide h5
  have HA := hide h
  clear h hn hs h0 h5 hgood hgo hi
  go_enter Tryz.func28, Tryz.ntmps28
  go_wp2_with (go_at_call 58; refine (unhide HC).mono ?_; rintro e w ⟨rfl, rfl⟩)
  have HB : Hid (Below w.heap.size w (w.alloc (.cells #[.int .i64 ((c : Int) + 1), .int .i64 g] 152)).drew) := ((Below.refl _ w).alloc (Nat.le_refl _) _).drew
  have hA2 := (unhide HA).grow (unhide HB)
  have q2 := hA2.cell2
  have r0 : (w.alloc (.cells #[.int .i64 ((c : Int) + 1), .int .i64 g] 152)).drew.cell? ⟨w.heap.size, 0, none⟩ = some (.int .i64 ((c : Int) + 1)) := by simp
  have r1 : (w.alloc (.cells #[.int .i64 ((c : Int) + 1), .int .i64 g] 152)).drew.cell? ⟨w.heap.size, 1, none⟩ = some (.int .i64 g) := by simp
  obtain ⟨w3, hrun, hs3, hg3⟩ := hA2.map.store hA2.ok (unhide HI) (c + 1) g
  rw [show (((c + 1 : Nat) : Int)) = (c : Int) + 1 by omega] at hrun
  have HX := hide (And.intro hA2 (And.intro hs3 hg3))
  clear hA2 hs3 hg3 hl2 c2
  obtain ⟨p, hp⟩ : ∃ y, y = w.heap.size := ⟨_, rfl⟩
  rw [← hp] at r0 r1 ⊢
  clear hp
  generalize w.alloc (.cells #[.int .i64 ((c : Int) + 1), .int .i64 g] 152) = wa at *
  go_region
  all_goals
    go_wp2
    go_ret
    obtain ⟨hA2, hs3, hg3⟩ := unhide HX
    exact ⟨rfl, hA2.turn hg3 hs3 (upd_length _ _ _ _) (hA2.ok.upd _ ⟨by have := unhide HGO; have := unhide H5; omega, (unhide HGO).2⟩), (Moves.of_below _ (unhide HB)).then (Moves.of_grown hg3 (by simp))⟩
theorem hold_any (n : Int) (w : World) (h : AllocAt w d b fr l) (hn : I64 n) :
    Calls Tryz.prog 28 #[.pointer (some ⟨d, 0, none⟩), .int .i64 n] w fun e w' => e = .returned (.int .i64 (holdE fr l n)) ∧ AllocAt w' d b fr (holdM fr l n) ∧ Moves [b] w w' := by
  unfold holdE holdM
  by_cases h5 : cntS (sec fr l n) = 5000
  · rw [if_pos h5, if_pos h5, if_neg (by omega)]
    refine (hold_many n w h hn h5).mono ?_
    rintro e w' ⟨rfl, rfl⟩
    exact ⟨rfl, h, Moves.refl _ _⟩
  · rw [if_neg h5, if_neg h5]
    have none_case : ∀ s, s = sec fr l n → cntS s = 0 → upd fr l n (holdS (sec fr l n)) = l := by
      intro s e h0
      rw [← e]
      have e2 : holdS s = s := by
        cases s with
        | none => rfl
        | some x => obtain ⟨c, g⟩ := x; change c = 0 at h0; subst h0; rfl
      rw [e2]
      unfold upd
      split
      · rename_i hi
        apply List.ext_getElem?
        intro j
        rw [List.getElem?_set]
        split
        · rename_i ej
          subst ej
          rw [if_pos (ix_lt hi), sec_at hi, e]
        · rfl
      · rfl
    by_cases h0 : cntS (sec fr l n) = 0
    · rw [if_pos h0, none_case _ rfl h0]
      refine (hold_free n w h hn h0).mono ?_
      rintro e w' ⟨rfl, rfl⟩
      exact ⟨rfl, h, Moves.refl _ _⟩
    · rw [if_neg h0]
      cases hs : sec fr l n with
      | none => rw [hs] at h0; exact absurd rfl h0
      | some x =>
        obtain ⟨c, g⟩ := x
        rw [hs] at h0 h5
        change ¬ c = 0 at h0
        change ¬ c = 5000 at h5
        obtain ⟨k, rfl⟩ : ∃ k, c = k + 1 := ⟨c - 1, by omega⟩
        exact hold_ok n w h hn (k + 1) g hs h0 h5
end Go.Proofs.YtdelobaiicoogaaGreatDoor.L5

/- Drop. -/
namespace Go.Proofs.YtdelobaiicoogaaGreatDoor.L5
open Go.ChangeShapes Go.WideShapes Go.ChangeAt Go.RowKit Go.Maps

variable {w w' : World} {d b fr : Nat} {l : List St}

set_option maxHeartbeats 1000000 in
set_option maxRecDepth 20000 in
theorem drop_free (n gen : Int) (w : World) (h : AllocAt w d b fr l) (hn : I64 n) (hc : cntS (sec fr l n) = 0) :
    Calls Tryz.prog 62 #[.pointer (some ⟨d, 0, none⟩), .int .i64 n, .int .i64 gen] w fun e w' => e = .returned (.int .i64 51) ∧ w' = w := by
  have HC := hide (count_is hn w h hc)
  clear h hn hc
  go_enter Tryz.func62, Tryz.ntmps62
  go_wp2_with (go_at_call 58; refine (unhide HC).mono ?_; rintro e w' ⟨rfl, rfl⟩)
  go_ret
  exact ⟨rfl, rfl⟩
set_option maxHeartbeats 2000000 in
set_option maxRecDepth 20000 in
theorem drop_more (n gen : Int) (w : World) (h : AllocAt w d b fr l) (hn : I64 n) (c : Nat) (g : Int) (hs : sec fr l n = some (c + 2, g)) :
    Calls Tryz.prog 62 #[.pointer (some ⟨d, 0, none⟩), .int .i64 n, .int .i64 gen] w fun e w' => e = .returned (.int .i64 0) ∧ AllocAt w' d b fr (upd fr l n (some (c + 1, g))) ∧ Moves [b] w w' := by
  have c2 := h.cell2
  have hl := (h.map.look_any hn).2
  rw [hs] at hl
  have hl2 : Sem.run Tryz.prog (Instr.lookup 153 (.map (some b)) (.int .i64 n) false) w = .ok (.agg #[.int .i64 ((c + 2 : Nat) : Int), .int .i64 g]) w := hl
  clear hl
  have hgood := h.ok.sec n
  rw [hs] at hgood
  have hgo : c + 2 ≤ 5000 ∧ I64 g := hgood
  have HC := hide (count_is (c := c + 2) hn w h (by rw [hs]; rfl))
  obtain ⟨x, hx⟩ : ∃ x : Int, x = ((c + 2 : Nat) : Int) := ⟨_, rfl⟩
  rw [← hx] at hl2 HC
  have hw : IntKind.i64.wrap (x - 1) = x - 1 := by rw [IntKind.wrap_i64]; omega
  have k0 : ¬ x = 0 := by omega
  have k1 : 0 < x - 1 := by omega
  have HX1 : Hid (x - 1 = ((c + 1 : Nat) : Int)) := by show x - 1 = ((c + 1 : Nat) : Int); omega
  have hi := sec_some hs
  have HI := hide hi
  have HGO := hide hgo
  have HA := hide h
  clear h hn hs hgood hgo hi hx
  go_enter Tryz.func62, Tryz.ntmps62
  go_wp2_with (go_at_call 58; refine (unhide HC).mono ?_; rintro e w ⟨rfl, rfl⟩)
  have HB : Hid (Below w.heap.size w (w.alloc (.cells #[.int .i64 (x - 1), .int .i64 g] 152)).drew) := ((Below.refl _ w).alloc (Nat.le_refl _) _).drew
  have hA2 := (unhide HA).grow (unhide HB)
  have q2 := hA2.cell2
  have r0 : (w.alloc (.cells #[.int .i64 (x - 1), .int .i64 g] 152)).drew.cell? ⟨w.heap.size, 0, none⟩ = some (.int .i64 (x - 1)) := by simp
  have r1 : (w.alloc (.cells #[.int .i64 (x - 1), .int .i64 g] 152)).drew.cell? ⟨w.heap.size, 1, none⟩ = some (.int .i64 g) := by simp
  obtain ⟨w3, hrun, hs3, hg3⟩ := hA2.map.store hA2.ok (unhide HI) (c + 1) g
  rw [← unhide HX1] at hrun
  have HX := hide (And.intro hA2 (And.intro hs3 hg3))
  clear hA2 hs3 hg3 hl2 c2
  obtain ⟨p, hp⟩ : ∃ y, y = w.heap.size := ⟨_, rfl⟩
  rw [← hp] at r0 r1 ⊢
  clear hp
  generalize w.alloc (.cells #[.int .i64 (x - 1), .int .i64 g] 152) = wa at *
  generalize x - 1 = y at *
  go_region
  all_goals
    go_wp2
    go_ret
    obtain ⟨hA2, hs3, hg3⟩ := unhide HX
    exact ⟨rfl, hA2.turn hg3 hs3 (upd_length _ _ _ _) (hA2.ok.upd _ ⟨by have := unhide HGO; omega, (unhide HGO).2⟩), (Moves.of_below _ (unhide HB)).then (Moves.of_grown hg3 (by simp))⟩
set_option maxHeartbeats 2000000 in
set_option maxRecDepth 20000 in
theorem drop_last (n gen : Int) (w : World) (h : AllocAt w d b fr l) (hn : I64 n) (hs : sec fr l n = some (1, gen)) :
    Calls Tryz.prog 62 #[.pointer (some ⟨d, 0, none⟩), .int .i64 n, .int .i64 gen] w fun e w' => e = .returned (.int .i64 0) ∧ AllocAt w' d b fr (upd fr l n none) ∧ Moves [b] w w' := by
  have c2 := h.cell2
  have hl := (h.map.look_any hn).2
  rw [hs] at hl
  have hl2 : Sem.run Tryz.prog (Instr.lookup 153 (.map (some b)) (.int .i64 n) false) w = .ok (.agg #[.int .i64 1, .int .i64 gen]) w := hl
  clear hl
  have HC := hide (count_is (c := 1) hn w h (by rw [hs]; rfl))
  have HC1 : Hid (Calls Tryz.prog 58 #[.pointer (some ⟨d, 0, none⟩), .int .i64 n] w fun e w' => e = .returned (.int .i64 1) ∧ w' = w) := unhide HC
  have HI := hide (sec_some hs)
  have HB : Hid (Below w.heap.size w (w.alloc (.cells #[.int .i64 0, .int .i64 gen] 152))) := (Below.refl _ w).alloc (Nat.le_refl _) _
  have hA2 := h.grow (unhide HB)
  have q2 := hA2.cell2
  have HA := hide hA2
  clear h hn hs HC hA2
  go_enter Tryz.func62, Tryz.ntmps62
  go_wp2_with (first
    | (go_at_call 58; refine (unhide HC1).mono ?_; rintro e w ⟨rfl, rfl⟩)
    | (at_delete; refine wp_del rfl _ _ rfl rfl rfl (unhide HA).map (unhide HA).ok (unhide HI) ?_; intro w3 hs3 hg3; have HX := hide (And.intro hs3 hg3); clear hs3 hg3))
  go_ret
  obtain ⟨hs3, hg3⟩ := unhide HX
  exact ⟨rfl, (unhide HA).turn hg3 hs3 (upd_length _ _ _ _) ((unhide HA).ok.upd _ trivial), (Moves.of_below _ (unhide HB)).then (Moves.of_grown hg3 (by simp))⟩
set_option maxHeartbeats 2000000 in
set_option maxRecDepth 20000 in
theorem drop_wait (n gen g : Int) (w : World) (h : AllocAt w d b fr l) (hn : I64 n) (hgen : I64 gen) (hs : sec fr l n = some (1, g)) (hne : g ≠ gen) :
    Calls Tryz.prog 62 #[.pointer (some ⟨d, 0, none⟩), .int .i64 n, .int .i64 gen] w fun e w' => e = .returned (.int .i64 0) ∧ AllocAt w' d b fr (upd fr l n (some (0, gen))) ∧ Moves [b] w w' := by
  have c2 := h.cell2
  have hl := (h.map.look_any hn).2
  rw [hs] at hl
  have hl2 : Sem.run Tryz.prog (Instr.lookup 153 (.map (some b)) (.int .i64 n) false) w = .ok (.agg #[.int .i64 1, .int .i64 g]) w := hl
  clear hl
  have HC := hide (count_is (c := 1) hn w h (by rw [hs]; rfl))
  have HC1 : Hid (Calls Tryz.prog 58 #[.pointer (some ⟨d, 0, none⟩), .int .i64 n] w fun e w' => e = .returned (.int .i64 1) ∧ w' = w) := unhide HC
  have HI := hide (sec_some hs)
  have HB : Hid (Below w.heap.size w (w.alloc (.cells #[.int .i64 0, .int .i64 g] 152))) := (Below.refl _ w).alloc (Nat.le_refl _) _
  have hA2 := h.grow (unhide HB)
  have q2 := hA2.cell2
  have HA := hide hA2
  have HG := hide hgen
  have hne' : ¬ g = gen := hne
  clear h hn hs HC hA2 hgen hne
  go_enter Tryz.func62, Tryz.ntmps62
  go_wp2_with (first
    | (go_at_call 58; refine (unhide HC1).mono ?_; rintro e w ⟨rfl, rfl⟩)
    | (at_mapUpdate; refine wp_store (c := 0) rfl _ _ _ rfl rfl rfl rfl (unhide HA).map (unhide HA).ok (unhide HI) ?_; intro w3 hs3 hg3; have HX := hide (And.intro hs3 hg3); clear hs3 hg3))
  go_ret
  obtain ⟨hs3, hg3⟩ := unhide HX
  exact ⟨rfl, (unhide HA).turn hg3 hs3 (upd_length _ _ _ _) ((unhide HA).ok.upd _ ⟨by decide, unhide HG⟩), (Moves.of_below _ (unhide HB)).then (Moves.of_grown hg3 (by simp))⟩

/-- a sector that stays as it was -/
theorem upd_same {fr : Nat} {l : List St} {n : Int} : upd fr l n (sec fr l n) = l := by
  unfold upd
  split
  · rename_i hi
    apply List.ext_getElem?
    intro j
    rw [List.getElem?_set]
    split
    · rename_i ej
      subst ej
      rw [if_pos (ix_lt hi), sec_at hi]
    · rfl
  · rfl
theorem drop_any (n gen : Int) (w : World) (h : AllocAt w d b fr l) (hn : I64 n) (hgen : I64 gen) :
    Calls Tryz.prog 62 #[.pointer (some ⟨d, 0, none⟩), .int .i64 n, .int .i64 gen] w fun e w' => e = .returned (.int .i64 (dropE fr l n)) ∧ AllocAt w' d b fr (dropM fr l n gen) ∧ Moves [b] w w' := by
  unfold dropE dropM
  by_cases h0 : cntS (sec fr l n) = 0
  · have e2 : dropS gen (sec fr l n) = sec fr l n := by
      cases hs : sec fr l n with
      | none => rfl
      | some x => obtain ⟨c, g⟩ := x; rw [hs] at h0; change c = 0 at h0; subst h0; rfl
    rw [if_pos h0, e2, upd_same]
    refine (drop_free n gen w h hn h0).mono ?_
    rintro e w' ⟨rfl, rfl⟩
    exact ⟨rfl, h, Moves.refl _ _⟩
  · rw [if_neg h0]
    cases hs : sec fr l n with
    | none => rw [hs] at h0; exact absurd rfl h0
    | some x =>
      obtain ⟨c, g⟩ := x
      rw [hs] at h0
      change ¬ c = 0 at h0
      match c, h0, hs with
      | 1, _, hs =>
        have e1 : dropS gen (some (1, g)) = if g = gen then none else some (0, gen) := rfl
        rw [e1]
        clear e1
        by_cases hg : g = gen
        · subst hg
          rw [if_pos rfl]
          exact drop_last n g w h hn hs
        · rw [if_neg hg]
          exact drop_wait n gen g w h hn hgen hs hg
      | c + 2, _, hs => exact drop_more n gen w h hn c g hs
end Go.Proofs.YtdelobaiicoogaaGreatDoor.L5

/- Room, Waiting. -/
namespace Go.Proofs.YtdelobaiicoogaaGreatDoor.L5
open Go.ChangeShapes Go.WideShapes Go.ChangeAt Go.RowKit Go.Maps

variable {w w' : World} {d b fr : Nat} {l : List St}

/-! Waiting -/
end Go.Proofs.YtdelobaiicoogaaGreatDoor.L5

/- Free, Take. -/
namespace Go.Proofs.YtdelobaiicoogaaGreatDoor.L5
open Go.ChangeShapes Go.WideShapes Go.ChangeAt Go.RowKit Go.Maps

variable {w w' : World} {d b fr : Nat} {l : List St}

end Go.Proofs.YtdelobaiicoogaaGreatDoor.L5

/- Take; the statements' own guard; the statement on a nil allocator. -/
namespace Go.Proofs.YtdelobaiicoogaaGreatDoor.L5
open Go.ChangeShapes Go.WideShapes Go.ChangeAt Go.RowKit Go.Maps

variable {w w' : World} {d b fr : Nat} {l : List St}

theorem in_of {k : Nat} (hk : k < l.length) : In fr l ((fr : Int) + (k : Int)) := by unfold In; omega
theorem upd_of {k : Nat} (hk : k < l.length) (s : St) : upd fr l ((fr : Int) + (k : Int)) s = l.set k s := by
  rw [upd_in s (in_of hk)]
  congr 1
  unfold ix
  omega
set_option maxHeartbeats 4000000 in
set_option maxRecDepth 20000 in
theorem take_any (gen : Int) (hgen : I64 gen) (w : World) (h : AllocAt w d b fr l) :
    Calls Tryz.prog 60 #[.pointer (some ⟨d, 0, none⟩), .int .i64 gen] w fun e w' => e = .returned (.tuple #[.int .i64 (takeN fr l), .int .i64 (takeE l)]) ∧ AllocAt w' d b fr (takeM l gen) ∧ Moves [b] w w' := by
  have c0 := h.cell0
  have c1 := h.cell1
  have hfew := h.ok.few
  have HA := hide h
  have HG := hide hgen
  clear h hgen
  go_enter Tryz.func60, Tryz.ntmps60
  go_wp2
  go_loopw [6] (fun v wr => ∃ k : Nat, k ≤ l.length ∧ v = .int .i64 ((fr : Int) + (k : Int)) ∧ Below w.heap.size w wr ∧ ∀ j, j < k → l[j]? ≠ some none) (fun v _ => fr + l.length - (intOf v).toNat)
  case atStart => exact ⟨0, Nat.zero_le _, by simp, Below.refl _ _, fun j hj => absurd hj (Nat.not_lt_zero _)⟩
  case round =>
    obtain ⟨k, hk, rfl, hb, hp⟩ := hrel
    have hA := (unhide HA).grow hb
    have d1 := hA.cell1
    have HA2 := hide hA
    have HB := hide hb
    have HP := hide hp
    clear c0 c1 hA hb hp
    by_cases hlt : k < l.length
    · have t1 : (fr : Int) + (k : Int) < (fr : Int) + (l.length : Int) := by omega
      cases hs : l[k]'hlt with
      | none =>
        have hat : l[k]? = some none := by rw [List.getElem?_eq_getElem hlt, hs]
        have htk := take_some hat (unhide HP)
        have en : takeN fr l = (fr : Int) + (k : Int) := by unfold takeN; rw [htk]
        have ee : takeE l = 0 := by unfold takeE; rw [htk]
        have em : takeM l gen = l.set k (some (1, gen)) := by unfold takeM; rw [htk]
        have HE := hide (And.intro en (And.intro ee em))
        have hsec : sec fr l ((fr : Int) + (k : Int)) = none := by rw [sec_of hlt, hs]
        have HM := hide (mark_ok _ gen wr (unhide HA2) (in_of hlt) (by unfold I64; omega) (unhide HG) hsec)
        rw [upd_of hlt] at HM
        clear hat htk en ee em hsec
        generalize (fr : Int) + (k : Int) = n at *
        generalize (fr : Int) + (l.length : Int) = t at *
        go_wp2_with (go_at_call 102; refine (unhide HM).mono ?_; rintro e w2 ⟨rfl, hA2, hm2⟩; have HX := hide (And.intro hA2 hm2); clear hA2 hm2)
        go_ret2
        obtain ⟨en, ee, em⟩ := unhide HE
        rw [en, ee, em]
        exact ⟨rfl, (unhide HX).1, (Moves.of_below _ (unhide HB)).then (unhide HX).2⟩
      | some x =>
        have hsec : (sec fr l ((fr : Int) + (k : Int))).isSome = true := by rw [sec_of hlt, hs]; rfl
        have HM := hide (mark_there _ gen wr (unhide HA2) (in_of hlt) (by unfold I64; omega) hsec)
        have HS : Hid (l[k]? = some (some x)) := by show l[k]? = some (some x); rw [List.getElem?_eq_getElem hlt, hs]
        clear hs hsec
        go_wp2_with (go_at_call 102; refine (unhide HM).mono ?_; rintro e w2 ⟨rfl, hb2⟩; have HX := hide hb2; clear hb2)
        go_roundw
        case rel =>
          refine ⟨k + 1, by omega, by go_num, (unhide HB).trans ((unhide HX).mono (unhide HB).size), fun j hj => ?_⟩
          by_cases e : j = k
          · subst e; rw [unhide HS]; simp
          · exact unhide HP j (by omega)
        case measure => simp [intOf]; omega
    · have hkl : k = l.length := by omega
      subst hkl
      have htk := take_none (unhide HP)
      have en : takeN fr l = 0 := by unfold takeN; rw [htk]
      have ee : takeE l = 50 := by unfold takeE; rw [htk]
      have em : takeM l gen = l := by unfold takeM; rw [htk]
      have HE := hide (And.intro en (And.intro ee em))
      clear htk en ee em
      generalize (fr : Int) + (l.length : Int) = t at *
      go_wp2
      go_ret2
      obtain ⟨en, ee, em⟩ := unhide HE
      rw [en, ee, em]
      exact ⟨rfl, unhide HA2, Moves.of_below _ (unhide HB)⟩

/-- an allocator, and what a law keeps -/
structure Stp (W w : World) (d b fr : Nat) (l : List St) : Prop where
  al : AllocAt w d b fr l
  bel : Below W.heap.size W w
  new : W.heap.size ≤ b
theorem Stp.grow {W : World} (h : Stp W w d b fr l) (hb : Below w.heap.size w w') : Stp W w' d b fr l := ⟨h.al.grow hb, h.bel.trans (hb.mono h.bel.size), h.new⟩
theorem Stp.turn {W : World} {l' : List St} (h : Stp W w d b fr l) (ha : AllocAt w' d b fr l') (hm : Moves [b] w w') : Stp W w' d b fr l' :=
  ⟨ha, Moves.below h.bel hm (by simpa using h.new) h.bel.size, h.new⟩

end Go.Proofs.YtdelobaiicoogaaGreatDoor.L5
