/- Texts that the proof needs, one behind the other. -/
import Derived.Test.YtlmgmdnmghgkbaaGreatDoorMaf
import Derived.Test.YtlmgmdnmghgkbaaGreatDoorMaa
import Derived.Test.YtlmgmdnmghgkbaaGreatDoorMae
/- Drop. -/
namespace Go.Proofs.YtlmgmdnmghgkbaaGreatDoor.L5
open Go.ChangeShapes Go.WideShapes Go.ChangeAt Go.RowKit Go.Maps

variable {w w' : World} {d b fr : Nat} {l : List St}

set_option maxHeartbeats 400000 in
theorem drop_nil (n gen : Int) (w : World) : Calls Tryz.prog 81 #[.pointer none, .int .i64 n, .int .i64 gen] w fun e w' => e = .returned (.int .i64 2) ∧ w' = w := by
  go_enter Tryz.func81, Tryz.ntmps81
  go_wp2
  go_ret
  exact ⟨rfl, rfl⟩
set_option maxHeartbeats 1000000 in
set_option maxRecDepth 20000 in
theorem drop_free (n gen : Int) (w : World) (h : AllocAt w d b fr l) (hn : I64 n) (hc : cntS (sec fr l n) = 0) :
    Calls Tryz.prog 81 #[.pointer (some ⟨d, 0, none⟩), .int .i64 n, .int .i64 gen] w fun e w' => e = .returned (.int .i64 51) ∧ w' = w := by
  have HC := hide (count_is hn w h hc)
  clear h hn hc
  go_enter Tryz.func81, Tryz.ntmps81
  go_wp2_with (go_at_call 82; refine (unhide HC).mono ?_; rintro e w' ⟨rfl, rfl⟩)
  go_ret
  exact ⟨rfl, rfl⟩
set_option maxHeartbeats 2000000 in
set_option maxRecDepth 20000 in
theorem drop_more (n gen : Int) (w : World) (h : AllocAt w d b fr l) (hn : I64 n) (c : Nat) (g : Int) (hs : sec fr l n = some (c + 2, g)) :
    Calls Tryz.prog 81 #[.pointer (some ⟨d, 0, none⟩), .int .i64 n, .int .i64 gen] w fun e w' => e = .returned (.int .i64 0) ∧ AllocAt w' d b fr (upd fr l n (some (c + 1, g))) ∧ Moves [b] w w' := by
  have c2 := h.cell2
  have hl := (h.map.look_any hn).2
  rw [hs] at hl
  have hl2 : Sem.run Tryz.prog (Instr.lookup 192 (.map (some b)) (.int .i64 n) false) w = .ok (.agg #[.int .i64 ((c + 2 : Nat) : Int), .int .i64 g]) w := hl
  clear hl
  have hgood := h.ok.sec n
  rw [hs] at hgood
  have hgo : c + 2 ≤ 5000 ∧ I64 g := hgood
  have HC := hide (count_is (c := c + 2) hn w h (by rw [hs]; rfl))
  obtain ⟨x, hx⟩ : ∃ x : Int, x = ((c + 2 : Nat) : Int) := ⟨_, rfl⟩
  rw [← hx] at hl2 HC
  have hw : IntKind.i64.wrap (x - 1) = x - 1 := by rw [IntKind.wrap_i64]; omega
  have k0 : ¬ x = 0 := by omega
  have k1 : 0 < x - 1 := by omega
  have HX1 : Hid (x - 1 = ((c + 1 : Nat) : Int)) := by show x - 1 = ((c + 1 : Nat) : Int); omega
  have hi := sec_some hs
  have HI := hide hi
  have HGO := hide hgo
  have HA := hide h
  clear h hn hs hgood hgo hi hx
  go_enter Tryz.func81, Tryz.ntmps81
  go_wp2_with (go_at_call 82; refine (unhide HC).mono ?_; rintro e w ⟨rfl, rfl⟩)
  have HB : Hid (Below w.heap.size w (w.alloc (.cells #[.int .i64 (x - 1), .int .i64 g] 231)).drew) := ((Below.refl _ w).alloc (Nat.le_refl _) _).drew
  have hA2 := (unhide HA).grow (unhide HB)
  have q2 := hA2.cell2
  have r0 : (w.alloc (.cells #[.int .i64 (x - 1), .int .i64 g] 231)).drew.cell? ⟨w.heap.size, 0, none⟩ = some (.int .i64 (x - 1)) := by simp
  have r1 : (w.alloc (.cells #[.int .i64 (x - 1), .int .i64 g] 231)).drew.cell? ⟨w.heap.size, 1, none⟩ = some (.int .i64 g) := by simp
  obtain ⟨w3, hrun, hs3, hg3⟩ := hA2.map.store hA2.ok (unhide HI) (c + 1) g
  rw [← unhide HX1] at hrun
  have HX := hide (And.intro hA2 (And.intro hs3 hg3))
  clear hA2 hs3 hg3 hl2 c2
  obtain ⟨p, hp⟩ : ∃ y, y = w.heap.size := ⟨_, rfl⟩
  rw [← hp] at r0 r1 ⊢
  clear hp
  generalize w.alloc (.cells #[.int .i64 (x - 1), .int .i64 g] 231) = wa at *
  generalize x - 1 = y at *
  go_region
  all_goals
    go_wp2
    go_ret
    obtain ⟨hA2, hs3, hg3⟩ := unhide HX
    exact ⟨rfl, hA2.turn hg3 hs3 (upd_length _ _ _ _) (hA2.ok.upd _ ⟨by have := unhide HGO; omega, (unhide HGO).2⟩), (Moves.of_below _ (unhide HB)).then (Moves.of_grown hg3 (by simp))⟩
set_option maxHeartbeats 2000000 in
set_option maxRecDepth 20000 in
theorem drop_last (n gen : Int) (w : World) (h : AllocAt w d b fr l) (hn : I64 n) (hs : sec fr l n = some (1, gen)) :
    Calls Tryz.prog 81 #[.pointer (some ⟨d, 0, none⟩), .int .i64 n, .int .i64 gen] w fun e w' => e = .returned (.int .i64 0) ∧ AllocAt w' d b fr (upd fr l n none) ∧ Moves [b] w w' := by
  have c2 := h.cell2
  have hl := (h.map.look_any hn).2
  rw [hs] at hl
  have hl2 : Sem.run Tryz.prog (Instr.lookup 192 (.map (some b)) (.int .i64 n) false) w = .ok (.agg #[.int .i64 1, .int .i64 gen]) w := hl
  clear hl
  have HC := hide (count_is (c := 1) hn w h (by rw [hs]; rfl))
  have HC1 : Hid (Calls Tryz.prog 82 #[.pointer (some ⟨d, 0, none⟩), .int .i64 n] w fun e w' => e = .returned (.int .i64 1) ∧ w' = w) := unhide HC
  have HI := hide (sec_some hs)
  have HB : Hid (Below w.heap.size w (w.alloc (.cells #[.int .i64 0, .int .i64 gen] 231))) := (Below.refl _ w).alloc (Nat.le_refl _) _
  have hA2 := h.grow (unhide HB)
  have q2 := hA2.cell2
  have HA := hide hA2
  clear h hn hs HC hA2
  go_enter Tryz.func81, Tryz.ntmps81
  go_wp2_with (first
    | (go_at_call 82; refine (unhide HC1).mono ?_; rintro e w ⟨rfl, rfl⟩)
    | (at_delete; refine wp_del rfl _ _ rfl rfl rfl (unhide HA).map (unhide HA).ok (unhide HI) ?_; intro w3 hs3 hg3; have HX := hide (And.intro hs3 hg3); clear hs3 hg3))
  go_ret
  obtain ⟨hs3, hg3⟩ := unhide HX
  exact ⟨rfl, (unhide HA).turn hg3 hs3 (upd_length _ _ _ _) ((unhide HA).ok.upd _ trivial), (Moves.of_below _ (unhide HB)).then (Moves.of_grown hg3 (by simp))⟩
set_option maxHeartbeats 2000000 in
set_option maxRecDepth 20000 in
theorem drop_wait (n gen g : Int) (w : World) (h : AllocAt w d b fr l) (hn : I64 n) (hgen : I64 gen) (hs : sec fr l n = some (1, g)) (hne : g ≠ gen) :
    Calls Tryz.prog 81 #[.pointer (some ⟨d, 0, none⟩), .int .i64 n, .int .i64 gen] w fun e w' => e = .returned (.int .i64 0) ∧ AllocAt w' d b fr (upd fr l n (some (0, gen))) ∧ Moves [b] w w' := by
  have c2 := h.cell2
  have hl := (h.map.look_any hn).2
  rw [hs] at hl
  have hl2 : Sem.run Tryz.prog (Instr.lookup 192 (.map (some b)) (.int .i64 n) false) w = .ok (.agg #[.int .i64 1, .int .i64 g]) w := hl
  clear hl
  have HC := hide (count_is (c := 1) hn w h (by rw [hs]; rfl))
  have HC1 : Hid (Calls Tryz.prog 82 #[.pointer (some ⟨d, 0, none⟩), .int .i64 n] w fun e w' => e = .returned (.int .i64 1) ∧ w' = w) := unhide HC
  have HI := hide (sec_some hs)
  have HB : Hid (Below w.heap.size w (w.alloc (.cells #[.int .i64 0, .int .i64 g] 231))) := (Below.refl _ w).alloc (Nat.le_refl _) _
  have hA2 := h.grow (unhide HB)
  have q2 := hA2.cell2
  have HA := hide hA2
  have HG := hide hgen
  have hne' : ¬ g = gen := hne
  clear h hn hs HC hA2 hgen hne
  go_enter Tryz.func81, Tryz.ntmps81
  go_wp2_with (first
    | (go_at_call 82; refine (unhide HC1).mono ?_; rintro e w ⟨rfl, rfl⟩)
    | (at_mapUpdate; refine wp_store (c := 0) rfl _ _ _ rfl rfl rfl rfl (unhide HA).map (unhide HA).ok (unhide HI) ?_; intro w3 hs3 hg3; have HX := hide (And.intro hs3 hg3); clear hs3 hg3))
  go_ret
  obtain ⟨hs3, hg3⟩ := unhide HX
  exact ⟨rfl, (unhide HA).turn hg3 hs3 (upd_length _ _ _ _) ((unhide HA).ok.upd _ ⟨by decide, unhide HG⟩), (Moves.of_below _ (unhide HB)).then (Moves.of_grown hg3 (by simp))⟩

/-- a sector that stays as it was -/
theorem upd_same {fr : Nat} {l : List St} {n : Int} : upd fr l n (sec fr l n) = l := by
  unfold upd
  split
  · rename_i hi
    apply List.ext_getElem?
    intro j
    rw [List.getElem?_set]
    split
    · rename_i ej
      subst ej
      rw [if_pos (ix_lt hi), sec_at hi]
    · rfl
  · rfl
theorem drop_any (n gen : Int) (w : World) (h : AllocAt w d b fr l) (hn : I64 n) (hgen : I64 gen) :
    Calls Tryz.prog 81 #[.pointer (some ⟨d, 0, none⟩), .int .i64 n, .int .i64 gen] w fun e w' => e = .returned (.int .i64 (dropE fr l n)) ∧ AllocAt w' d b fr (dropM fr l n gen) ∧ Moves [b] w w' := by
  unfold dropE dropM
  by_cases h0 : cntS (sec fr l n) = 0
  · have e2 : dropS gen (sec fr l n) = sec fr l n := by
      cases hs : sec fr l n with
      | none => rfl
      | some x => obtain ⟨c, g⟩ := x; rw [hs] at h0; change c = 0 at h0; subst h0; rfl
    rw [if_pos h0, e2, upd_same]
    refine (drop_free n gen w h hn h0).mono ?_
    rintro e w' ⟨rfl, rfl⟩
    exact ⟨rfl, h, Moves.refl _ _⟩
  · rw [if_neg h0]
    cases hs : sec fr l n with
    | none => rw [hs] at h0; exact absurd rfl h0
    | some x =>
      obtain ⟨c, g⟩ := x
      rw [hs] at h0
      change ¬ c = 0 at h0
      match c, h0, hs with
      | 1, _, hs =>
        have e1 : dropS gen (some (1, g)) = if g = gen then none else some (0, gen) := rfl
        rw [e1]
        clear e1
        by_cases hg : g = gen
        · subst hg
          rw [if_pos rfl]
          exact drop_last n g w h hn hs
        · rw [if_neg hg]
          exact drop_wait n gen g w h hn hgen hs hg
      | c + 2, _, hs => exact drop_more n gen w h hn c g hs
end Go.Proofs.YtlmgmdnmghgkbaaGreatDoor.L5

/- Room, Waiting. -/
namespace Go.Proofs.YtlmgmdnmghgkbaaGreatDoor.L5
open Go.ChangeShapes Go.WideShapes Go.ChangeAt Go.RowKit Go.Maps

variable {w w' : World} {d b fr : Nat} {l : List St}

set_option maxHeartbeats 400000 in
theorem room_nil (w : World) : Calls Tryz.prog 84 #[.pointer none] w fun e w' => e = .returned (.int .i64 0) ∧ w' = w := by
  go_enter Tryz.func84, Tryz.ntmps84
  go_wp2
  go_ret
  exact ⟨rfl, rfl⟩
set_option maxHeartbeats 2000000 in
set_option maxRecDepth 20000 in
theorem room_any (w : World) (h : AllocAt w d b fr l) :
    Calls Tryz.prog 84 #[.pointer (some ⟨d, 0, none⟩)] w fun e w' => e = .returned (.int .i64 (room l : Int)) ∧ Below w.heap.size w w' := by
  have c0 := h.cell0
  have c1 := h.cell1
  have c2 := h.cell2
  have hlen := fun ty => World.ownsMap.len (h.map.same (w' := w.drew) rfl) Tryz.underlying192 ty
  have hsz := mp_size l fr
  have hrl := room_le l
  have hfew := h.ok.few
  have e0 : ((Maps.size (mp fr l) : Nat) : Int) = (l.length : Int) - (room l : Int) := by omega
  rw [e0] at hlen
  have w1 : IntKind.i64.wrap ((fr : Int) + (l.length : Int) - (fr : Int)) = (l.length : Int) := by rw [IntKind.wrap_i64]; omega
  have w2 : IntKind.i64.wrap ((l.length : Int) - ((l.length : Int) - (room l : Int))) = (room l : Int) := by rw [IntKind.wrap_i64]; omega
  clear h hsz hrl hfew e0
  generalize (l.length : Int) - (room l : Int) = z at *
  generalize (l.length : Int) = y at *
  generalize (fr : Int) + y = t at *
  generalize (room l : Int) = r at *
  generalize (fr : Int) = f at *
  go_enter Tryz.func84, Tryz.ntmps84
  go_wp2_with fail
  go_region
  go_wp2
  go_ret
  exact ⟨rfl, (Below.refl _ _).drew⟩

/-! Waiting -/
def litLeft (left : Lit → Bool) : Int → Bool := fun z => left (.int .i64 z)
theorem litLeft_strike (left : Lit → Bool) (x : Int) : litLeft (fun z => left z && !z.sameKey (.int .i64 x)) = fun z => litLeft left z && !decide (z = x) := by
  funext z
  simp [litLeft, Lit.sameKey]
theorem left_at {fr : Nat} {l : List St} {kl : Lit} {h : Nat} {g : Int} {z0 : DataW Unit × List MemPlace} (hz : z0 = (datum h g, [])) (hat : ∀ zd, (mp fr l).atKey kl zd = z0.1) : ∃ i : Nat, l[i]? = some (some (h, g)) ∧ kl = .int .i64 ((fr : Int) + (i : Int)) := by
  obtain ⟨i, h', g', hi, rfl⟩ := mp_has_key fr l kl (Maps.has_true_of_atKey hat)
  refine ⟨i, ?_, rfl⟩
  have h1 := hat (datum 0 0)
  rw [mp_at (sec_mem.2 ⟨i, hi, rfl⟩), hz] at h1
  obtain ⟨rfl, rfl⟩ := datum_inj h1
  exact hi
theorem tally_has (p : St → Bool) (hp : p none = false) (l : List St) (fr : Nat) : tally p (litLeft (Maps.has (mp fr l))) fr l = 0 := by
  refine tally_start p _ l fr (fun i s hi hs => ?_)
  show Maps.has (mp fr l) (.int .i64 ((fr : Int) + (i : Int))) = true
  rw [mp_has]
  cases s with
  | none => rw [hp] at hs; cases hs
  | some x =>
    obtain ⟨h, g⟩ := x
    rw [sec_mem.2 ⟨i, hi, rfl⟩]
    rfl
theorem below_grown {w w1 w2 : World} {r : Nat} (h : Below w.heap.size w w1) (hg : w1.grownBy w2 (some r)) (hr : w.heap.size ≤ r) : Below w.heap.size w w2 :=
  Moves.below h (Moves.of_grown (fp := [r]) hg (by simp)) (by simpa using hr) h.size
end Go.Proofs.YtlmgmdnmghgkbaaGreatDoor.L5

/- Free, Take. -/
namespace Go.Proofs.YtlmgmdnmghgkbaaGreatDoor.L5
open Go.ChangeShapes Go.WideShapes Go.ChangeAt Go.RowKit Go.Maps

variable {w w' : World} {d b fr : Nat} {l : List St}

theorem AllocAt.moved (h : AllocAt w d b fr l) {l' : List St} (hm : Moves [b] w w') (hs : Sec w' b fr l') (hl : l'.length = l.length) (hok : Ok fr l') : AllocAt w' d b fr l' := by
  refine ⟨?_, hs, hok⟩
  rw [hl]
  exact (hm.block d h.dlt (by have := h.ne; simp; exact this)).trans h.blk

set_option maxHeartbeats 400000 in
theorem free_nil (gen : Int) (w : World) : Calls Tryz.prog 83 #[.pointer none, .int .i64 gen] w fun e w' => e = .returned (.int .i64 0) ∧ w' = w := by
  go_enter Tryz.func83, Tryz.ntmps83
  go_wp2
  go_ret
  exact ⟨rfl, rfl⟩
theorem mix_has (gen : Int) (l : List St) (fr : Nat) : mix gen (litLeft (Maps.has (mp fr l))) fr l = l := by
  refine mix_start gen _ l fr (fun i x hi => ?_)
  obtain ⟨h, g⟩ := x
  show Maps.has (mp fr l) (.int .i64 ((fr : Int) + (i : Int))) = true
  rw [mp_has, sec_mem.2 ⟨i, hi, rfl⟩]
  rfl
theorem mix_came {gen : Int} {left : Int → Bool} {i h : Nat} {g : Int} (hl : left ((fr : Int) + (i : Int)) = true) (hi : (mix gen left fr l)[i]? = some (some (h, g))) : l[i]? = some (some (h, g)) := by
  rw [mix_at] at hi
  cases hj : l[i]? with
  | none => rw [hj] at hi; cases hi
  | some s =>
    rw [hj] at hi
    simp [hl] at hi
    rw [hi]
theorem set_same {l : List St} {i : Nat} {s : St} (h : l[i]? = some s) : l.set i s = l := by
  apply List.ext_getElem?
  intro j
  rw [List.getElem?_set]
  split
  · rename_i e
    subst e
    rw [if_pos (List.getElem?_eq_some_iff.1 h).1, h]
  · rfl
theorem mp_del_at {i : Nat} (hi : i < l.length) (hc : Canon ((mp fr l).del (.int .i64 ((fr : Int) + (i : Int))))) : (mp fr l).del (.int .i64 ((fr : Int) + (i : Int))) = mp fr (l.set i none) := by
  have hin : In fr l ((fr : Int) + (i : Int)) := by unfold In; omega
  have e : ix fr ((fr : Int) + (i : Int)) = i := by unfold ix; omega
  rw [mp_del hin hc, upd_in none hin, e]
set_option maxHeartbeats 4000000 in
set_option maxRecDepth 20000 in
theorem free_any (gen : Int) (w : World) (h : AllocAt w d b fr l) :
    Calls Tryz.prog 83 #[.pointer (some ⟨d, 0, none⟩), .int .i64 gen] w fun e w' => e = .returned (.int .i64 (freeN l gen : Int)) ∧ AllocAt w' d b fr (freeM l gen) ∧ Moves [b] w w' := by
  have c2 := h.cell2
  have hm : w.ownsMap Tryz.prog 3 secR b 4096 (mp fr l) := h.map
  have hlen : l.length ≤ 4096 := by have := h.ok.few; omega
  have HA := hide h
  have HND : Hid (d ∉ [b]) := by have := h.ne; show d ∉ [b]; simp; exact this
  clear h
  go_enter Tryz.func83, Tryz.ntmps83
  go_wp2_with (first
    | (at_range; refine wpList_range_own _ rfl _ 192 rfl 3 231 law3 Tryz.underlying192 secR b 4096 _ rfl hm ?_; intro w0 hrg0 hg0 hs0)
    | go_in)
  go_frame
  go_loopw [5] (fun v wr => ∃ (left : Lit → Bool) (cnt : Nat), wr.ranges Tryz.prog 3 secR b w.heap.size 4096 (mp fr (mix gen (litLeft left) fr l)) left cnt ∧ v = .int .i64 (tally (dueS gen) (litLeft left) fr l : Int) ∧ Moves [b] w wr)
    (fun _ wr => wr.rangeLeft b w.heap.size)
  case atStart =>
    refine ⟨_, _, by rw [mix_has]; exact hrg0, by rw [tally_has (dueS gen) rfl]; rfl, ?_⟩
    exact Moves.of_grown hg0 (by simp)
  case round =>
    obtain ⟨left, cnt, hrg, rfl, hbel⟩ := hrel
    have htl := tally_le (dueS gen) (litLeft left) l fr
    have HBEL := hide hbel
    clear hbel hrg0 hg0 hs0
    go_wp2_with (first
      | (at_next; refine wpList_next_ranges _ rfl _ rfl 3 law3 secR (Value.int .i64) (fun hg : Nat × Int => Value.agg #[.int .i64 (hg.1 : Int), .int .i64 hg.2]) (fun key kl hk => by obtain ⟨x, e, _⟩ := key3_inv hk; exact ⟨x, e⟩) (fun v y hv => by obtain ⟨h, g, e, _⟩ := secR_inv hv; exact ⟨(h, g), e⟩) b w.heap.size 4096 _ _ _ rfl hrg ?_ ?_)
      | go_in)
    · -- nothing is left
      intro hc0 hl0
      have e : tally (dueS gen) (litLeft left) fr l = freeN l gen := tally_end (dueS gen) _ l fr (fun i => hl0 _)
      have e2 : mix gen (litLeft left) fr l = freeM l gen := mix_end gen _ l fr (fun i => hl0 _)
      rw [e]
      have HM := hide hrg.owns
      rw [e2] at HM
      clear e hl0 hrg e2
      go_wp2
      go_ret
      exact ⟨rfl, (unhide HA).moved (unhide HBEL) (unhide HM) (by unfold freeM; rw [List.length_map]) ((unhide HA).ok.free gen), unhide HBEL⟩
    · -- an entry has come
      intro x h g kl yd yp w1 cnt1 hkey hlx hv hat hrg1 hlt hg1 hs1 hen
      have ey : (yd, yp) = (datum h g, []) := by rw [secR_mk] at hv; exact (Option.some.inj hv).symm
      obtain ⟨i, hi0, ekl⟩ := left_at ey hat
      subst ekl
      have ex : x = (fr : Int) + (i : Int) := by
        obtain ⟨x', e1, e2⟩ := key3_inv hkey
        cases e1
        cases e2
        rfl
      subst ex
      have hi := mix_came (left := litLeft left) hlx hi0
      have hil := (List.getElem?_eq_some_iff.1 hi).1
      have hst := tally_step (dueS gen) (litLeft left) l fr i _ hi hlx
      rw [← litLeft_strike] at hst
      have hmx := mix_step gen (litLeft left) l fr i _ hi
      rw [← litLeft_strike] at hmx
      have hmv : Moves [b] w w1 := (unhide HBEL).trans (Moves.of_grown (fp := [w.heap.size]) hg1 (by simp)) (by simp)
      have hmv2 : Moves [b] w (w1.alloc (.cells #[.int .i64 (h : Int), .int .i64 g] 231)) := hmv.then (Moves.alloc _ _ _)
      have q2 := hmv2.cell c2 (unhide HND)
      have HMV := hide hmv2
      have hrg2 := hrg1.alloc (.cells #[.int .i64 (h : Int), .int .i64 g] 231)
      have HR := hide hrg2
      have HO := hide (And.intro hrg hlt)
      have HK := hide hkey
      have HIL := hide hil
      by_cases hdue : h = 0 ∧ g ≤ gen
      · obtain ⟨h0, hge⟩ := hdue
        subst h0
        have ed : dueS gen (some (0, g)) = true := by simp [dueS, hge]
        rw [ed, if_pos rfl] at hst
        have ef : freedS gen (some (0, g)) = none := by unfold freedS; rw [if_pos ed]
        rw [ef] at hmx
        have HMX := hide hmx
        have q2' : (w1.alloc (.cells #[.int .i64 0, .int .i64 g] 231)).cell? ⟨d, 2, none⟩ = some (.map (some b)) := q2
        clear hrg hrg1 hg1 hat hv hkey hlx ey hs1 hi hi0 hmv hmv2 hrg2 hmx ed ef q2 hil c2 hm
        go_wp2_with (first
          | (at_delete; refine wpList_delete_ranges _ rfl _ _ 192 3 rfl 231 law3 Tryz.underlying192 secR b w.heap.size 4096 _ _ _ rfl (unhide HR) _ _ rfl (unhide HK) ?_; intro w2 cnt2 hrg3 hle hturn; have HR3 := hide (And.intro hrg3 (And.intro hle hturn)); clear hrg3 hle hturn)
          | go_in)
        have r3 := (unhide HR3).1
        rw [Maps.strike_twice] at r3
        rw [mp_del_at (by rw [mix_length]; exact unhide HIL) (r3.owns.canon law3), ← unhide HMX] at r3
        have HR4 := hide r3
        clear r3
        go_roundw
        case rel =>
          exact ⟨_, cnt2, unhide HR4, by rw [hst]; go_num, (unhide HMV).then (Moves.of_grown (unhide HR3).2.2.grown (by simp))⟩
        case measure =>
          have e1 := (unhide HR4).left_eq
          have e2 := (unhide HO).1.left_eq
          have := (unhide HR3).2.1
          have := (unhide HO).2
          omega
      · have ed : dueS gen (some (h, g)) = false := by
          cases h with
          | zero => simp [dueS]; omega
          | succ k => rfl
        rw [ed] at hst
        have ef : freedS gen (some (h, g)) = some (h, g) := by unfold freedS; rw [ed]; rfl
        rw [ef, set_same hi0] at hmx
        rw [← hmx] at hrg2
        have HR4 := hide hrg2
        simp only [Bool.false_eq_true, if_false, Nat.add_zero] at hst
        clear hrg hrg1 hg1 hat hv hkey hlx ey hs1 hi hi0 hmv hmv2 hrg2 hmx ed ef q2 hil c2 hm HR
        by_cases h0 : h = 0
        · subst h0
          have hge : ¬ g ≤ gen := fun hh => hdue ⟨rfl, hh⟩
          clear hdue
          go_wp2
          go_roundw
          case rel => exact ⟨_, cnt1, unhide HR4, by rw [hst], unhide HMV⟩
          case measure => rw [(unhide HO).1.left_eq]; exact Nat.lt_of_le_of_lt (Nat.le_of_eq (unhide HR4).left_eq) (unhide HO).2
        · have h0' : ¬ (h : Int) = 0 := by omega
          clear hdue
          go_wp2
          go_roundw
          case rel => exact ⟨_, cnt1, unhide HR4, by rw [hst], unhide HMV⟩
          case measure => rw [(unhide HO).1.left_eq]; exact Nat.lt_of_le_of_lt (Nat.le_of_eq (unhide HR4).left_eq) (unhide HO).2
end Go.Proofs.YtlmgmdnmghgkbaaGreatDoor.L5

/- Take; the statements' own guard; the statement on a nil allocator. -/
namespace Go.Proofs.YtlmgmdnmghgkbaaGreatDoor.L5
open Go.ChangeShapes Go.WideShapes Go.ChangeAt Go.RowKit Go.Maps

variable {w w' : World} {d b fr : Nat} {l : List St}

set_option maxHeartbeats 400000 in
theorem take_nil (gen : Int) (w : World) : Calls Tryz.prog 129 #[.pointer none, .int .i64 gen] w fun e w' => e = .returned (.tuple #[.int .i64 0, .int .i64 2]) ∧ w' = w := by
  go_enter Tryz.func129, Tryz.ntmps129
  go_wp2
  go_ret2
  exact ⟨rfl, rfl⟩
theorem in_of {k : Nat} (hk : k < l.length) : In fr l ((fr : Int) + (k : Int)) := by unfold In; omega
theorem upd_of {k : Nat} (hk : k < l.length) (s : St) : upd fr l ((fr : Int) + (k : Int)) s = l.set k s := by
  rw [upd_in s (in_of hk)]
  congr 1
  unfold ix
  omega
set_option maxHeartbeats 4000000 in
set_option maxRecDepth 20000 in
theorem take_any (gen : Int) (hgen : I64 gen) (w : World) (h : AllocAt w d b fr l) :
    Calls Tryz.prog 129 #[.pointer (some ⟨d, 0, none⟩), .int .i64 gen] w fun e w' => e = .returned (.tuple #[.int .i64 (takeN fr l), .int .i64 (takeE l)]) ∧ AllocAt w' d b fr (takeM l gen) ∧ Moves [b] w w' := by
  have c0 := h.cell0
  have c1 := h.cell1
  have hfew := h.ok.few
  have HA := hide h
  have HG := hide hgen
  clear h hgen
  go_enter Tryz.func129, Tryz.ntmps129
  go_wp2
  go_loopw [6] (fun v wr => ∃ k : Nat, k ≤ l.length ∧ v = .int .i64 ((fr : Int) + (k : Int)) ∧ Below w.heap.size w wr ∧ ∀ j, j < k → l[j]? ≠ some none) (fun v _ => fr + l.length - (intOf v).toNat)
  case atStart => exact ⟨0, Nat.zero_le _, by simp, Below.refl _ _, fun j hj => absurd hj (Nat.not_lt_zero _)⟩
  case round =>
    obtain ⟨k, hk, rfl, hb, hp⟩ := hrel
    have hA := (unhide HA).grow hb
    have d1 := hA.cell1
    have HA2 := hide hA
    have HB := hide hb
    have HP := hide hp
    clear c0 c1 hA hb hp
    by_cases hlt : k < l.length
    · have t1 : (fr : Int) + (k : Int) < (fr : Int) + (l.length : Int) := by omega
      cases hs : l[k]'hlt with
      | none =>
        have hat : l[k]? = some none := by rw [List.getElem?_eq_getElem hlt, hs]
        have htk := take_some hat (unhide HP)
        have en : takeN fr l = (fr : Int) + (k : Int) := by unfold takeN; rw [htk]
        have ee : takeE l = 0 := by unfold takeE; rw [htk]
        have em : takeM l gen = l.set k (some (1, gen)) := by unfold takeM; rw [htk]
        have HE := hide (And.intro en (And.intro ee em))
        have hsec : sec fr l ((fr : Int) + (k : Int)) = none := by rw [sec_of hlt, hs]
        have HM := hide (mark_ok _ gen wr (unhide HA2) (in_of hlt) (by unfold I64; omega) (unhide HG) hsec)
        rw [upd_of hlt] at HM
        clear hat htk en ee em hsec
        generalize (fr : Int) + (k : Int) = n at *
        generalize (fr : Int) + (l.length : Int) = t at *
        go_wp2_with (go_at_call 172; refine (unhide HM).mono ?_; rintro e w2 ⟨rfl, hA2, hm2⟩; have HX := hide (And.intro hA2 hm2); clear hA2 hm2)
        go_ret2
        obtain ⟨en, ee, em⟩ := unhide HE
        rw [en, ee, em]
        exact ⟨rfl, (unhide HX).1, (Moves.of_below _ (unhide HB)).then (unhide HX).2⟩
      | some x =>
        have hsec : (sec fr l ((fr : Int) + (k : Int))).isSome = true := by rw [sec_of hlt, hs]; rfl
        have HM := hide (mark_there _ gen wr (unhide HA2) (in_of hlt) (by unfold I64; omega) hsec)
        have HS : Hid (l[k]? = some (some x)) := by show l[k]? = some (some x); rw [List.getElem?_eq_getElem hlt, hs]
        clear hs hsec
        go_wp2_with (go_at_call 172; refine (unhide HM).mono ?_; rintro e w2 ⟨rfl, hb2⟩; have HX := hide hb2; clear hb2)
        go_roundw
        case rel =>
          refine ⟨k + 1, by omega, by go_num, (unhide HB).trans ((unhide HX).mono (unhide HB).size), fun j hj => ?_⟩
          by_cases e : j = k
          · subst e; rw [unhide HS]; simp
          · exact unhide HP j (by omega)
        case measure => simp [intOf]; omega
    · have hkl : k = l.length := by omega
      subst hkl
      have htk := take_none (unhide HP)
      have en : takeN fr l = 0 := by unfold takeN; rw [htk]
      have ee : takeE l = 50 := by unfold takeE; rw [htk]
      have em : takeM l gen = l := by unfold takeM; rw [htk]
      have HE := hide (And.intro en (And.intro ee em))
      clear htk en ee em
      generalize (fr : Int) + (l.length : Int) = t at *
      go_wp2
      go_ret2
      obtain ⟨en, ee, em⟩ := unhide HE
      rw [en, ee, em]
      exact ⟨rfl, unhide HA2, Moves.of_below _ (unhide HB)⟩

/-- an allocator, and what a law keeps -/
structure Stp (W w : World) (d b fr : Nat) (l : List St) : Prop where
  al : AllocAt w d b fr l
  bel : Below W.heap.size W w
  new : W.heap.size ≤ b
theorem Stp.grow {W : World} (h : Stp W w d b fr l) (hb : Below w.heap.size w w') : Stp W w' d b fr l := ⟨h.al.grow hb, h.bel.trans (hb.mono h.bel.size), h.new⟩
theorem Stp.turn {W : World} {l' : List St} (h : Stp W w d b fr l) (ha : AllocAt w' d b fr l') (hm : Moves [b] w w') : Stp W w' d b fr l' :=
  ⟨ha, Moves.below h.bel hm (by simpa using h.new) h.bel.size, h.new⟩

end Go.Proofs.YtlmgmdnmghgkbaaGreatDoor.L5

/- A heap of the program in memory. -/
namespace Go.Proofs.YtlmgmdnmghgkbaaGreatDoor
open Go.ChangeShapes Go.WideShapes Go.ChangeAt Go.RowKit

abbrev Moves := L5.Moves
theorem hide {p : Prop} (h : p) : Hid p := h
theorem unhide {p : Prop} (h : Hid p) : p := h
theorem mv53 {fp : List Nat} {w w' : World} (h : L3.Moves fp w w') : Moves fp w w' := ⟨h.os, h.tape, h.output, h.size, h.block⟩
theorem mv35 {fp : List Nat} {w w' : World} (h : Moves fp w w') : L3.Moves fp w w' := ⟨h.os, h.tape, h.output, h.size, h.block⟩

def intV (n : Int) : Value := .int .i64 n
/-- a slice of numbers in memory that nobody turns -/
def Ints (w : World) (v : Value) (l : List Int) : Prop := w.ownsRow 0 3 1 v l.length (l.map intV)

theorem Ints.same {w w' : World} {v : Value} {l : List Int} (h : Ints w v l) (hs : ∀ g, v.ownBlock = some g → w'.heap[g]? = w.heap[g]?) : Ints w' v l := L3.ownsRow_same h hs
theorem Ints.lt {w : World} {v : Value} {l : List Int} (h : Ints w v l) : ∀ g, v.ownBlock = some g → g < w.heap.size := fun g hg => (World.ownsRow.lt h g hg).2
theorem Ints.kind {w : World} {v : Value} {l : List Int} {g : Nat} (h : Ints w v l) (hv : v.ownBlock = some g) : ∃ cur, w.heap[g]? = some (.cells cur 3 (0, 0)) := L3.ownsRow_kind h hv
theorem Ints.grow {w w' : World} {v : Value} {l : List Int} (h : Ints w v l) (hb : Below w.heap.size w w') : Ints w' v l := h.same (fun g hg => hb.block g (h.lt g hg))
/-- where a slice's row lies -/
theorem row_some {w : World} {e : TypeId} {size : Nat} {v : Value} {n : Nat} {xs : List Value} (h : w.ownsRow 0 e size v n xs) (hn : 0 < n) : ∃ g cap, v = .slice (some ⟨g, 0, none⟩) n cap ∧ g < w.heap.size ∧ n ≤ cap := by
  rcases h.2 with ⟨_, h0⟩ | ⟨g, cap, cur, rfl, _, hg, hc, _⟩
  · omega
  · exact ⟨g, cap, rfl, (Array.getElem?_eq_some_iff.1 hg).1, hc⟩
theorem row_cell {w : World} {e : TypeId} {size : Nat} {g n cap : Nat} {xs : List Value} (h : w.ownsRow 0 e size (.slice (some ⟨g, 0, none⟩) n cap) n xs) (j : Nat) (u : Value) (hj : xs[j]? = some u) : w.cell? ⟨g, j, none⟩ = some u := by
  have := h.cells (g := g) rfl j u hj
  rw [Go.WideShapes.add_plain, Nat.zero_add] at this
  exact this
theorem Ints.form {w : World} {v : Value} {l : List Int} (h : Ints w v l) : ∃ a cap, v = .slice a l.length cap := L3.ownsRow_form h
theorem Ints.at {w : World} {a : Option Addr} {cap : Nat} {l : List Int} (h : Ints w (.slice a l.length cap) l) (k : Nat) (hk : k < l.length) : ∃ g, a = some ⟨g, 0, none⟩ ∧ w.cell? ⟨g, k, none⟩ = some (.int .i64 l[k]) := by
  obtain ⟨g, cap', e, _, _⟩ := row_some h (by omega)
  injection e with e1 e2 e3
  subst e1 e3
  exact ⟨g, rfl, row_cell h k _ (by rw [List.getElem?_map, List.getElem?_eq_getElem hk]; rfl)⟩
theorem Ints.nil (w : World) : Ints w (.slice none 0 0) [] := World.ownsRow_nil w 0 3 1
theorem Ints.reads {w : World} {v : Value} {l : List Int} (h : Ints w v l) : ∃ d, slR v = some (d, []) := by
  rcases h.2 with ⟨rfl, _⟩ | ⟨g, cap, cur, rfl, _⟩
  · exact ⟨_, rfl⟩
  · exact ⟨_, rfl⟩

/-- the kids of a place, as the program has them -/
def Kid (w : World) (o : Option Value) (l : List Int) : Prop := match o with
  | none => l = []
  | some v => Ints w v l
theorem Kid.get {w : World} {o : Option Value} {l : List Int} (h : Kid w o l) : Ints w (o.getD (.slice none 0 0)) l := by
  cases o with
  | none =>
    have e : l = [] := h
    subst e
    exact Ints.nil w
  | some v => exact h

/-- a heap in memory -/
structure HeapAt (w : World) (p d : Nat) (h : Hp) (c : Nat) (a b kb : Nat) (fd : List Nat) (kf : Nat → Option Value) : Prop where
  blk : w.heap[p]? = some (.cells #[.pointer (some ⟨a, 0, none⟩), .pointer (some ⟨d, 0, none⟩), .int .i64 h.gen, .map (some kb)] 114 (0, 0))
  al : L5.AllocAt w a b 2 h.al
  dk : L3.IsDisk w d h.dk c fd
  km : Vm slR w kb c kf
  kid : ∀ q, q < 4096 → Kid w (kf q) (h.kids q)
  bk : b ≠ kb
  bd : b ∉ fd
  kd : kb ∉ fd
  gen : 0 ≤ h.gen ∧ h.gen ≤ 1152921504606846976
  len : 2 + h.al.length = h.dk.old.length
  tab : L4.Tab w
  pos : 0 < p ∧ 0 < a ∧ 0 < b ∧ 0 < kb ∧ ∀ x ∈ fd, 0 < x

def foot (p a b kb : Nat) (fd : List Nat) : List Nat := p :: a :: b :: kb :: fd

/-- the kinds of a disk's blocks -/
theorem disk_kinds {w : World} {d : Nat} {m : L3.Dk} {c : Nat} {fd : List Nat} (h : L3.IsDisk w d m c fd) {x : Nat} (hx : x ∈ fd) : (∃ es cl, w.heap[x]? = some (.map es cl)) ∨ (∃ cs, w.heap[x]? = some (.cells cs 184 (0, 0))) ∨ ∃ cs, w.heap[x]? = some (.cells cs 288 (0, 0)) := by
  obtain ⟨fb, lb, ov, h, rfl⟩ := h
  simp [L3.fpOf] at hx
  obtain ⟨F, nf, h1, _⟩ := h.fl
  obtain ⟨L, h2, _⟩ := h.la
  rcases hx with rfl | rfl | rfl | hx
  · exact .inr (.inl ⟨_, h.blk⟩)
  · exact .inl h1.kind
  · exact .inl h2.kind
  · exact .inr (.inr (L3.ownsRow_kind h.op hx))

variable {w w' : World} {p d : Nat} {h : Hp} {c a b kb : Nat} {fd : List Nat} {kf : Nat → Option Value}

theorem HeapAt.plt (H : HeapAt w p d h c a b kb fd kf) : p < w.heap.size := (Array.getElem?_eq_some_iff.1 H.blk).1
theorem HeapAt.lt (H : HeapAt w p d h c a b kb fd kf) : ∀ x ∈ foot p a b kb fd, x < w.heap.size := by
  intro x hx
  simp only [foot, List.mem_cons] at hx
  rcases hx with rfl | rfl | rfl | rfl | hx
  · exact H.plt
  · exact H.al.dlt
  · exact H.al.map.lt
  · exact H.km.lt
  · exact H.dk.lt x hx
theorem HeapAt.zero (H : HeapAt w p d h c a b kb fd kf) : 0 ∉ foot p a b kb fd := by
  intro hx
  simp only [foot, List.mem_cons] at hx
  obtain ⟨h1, h2, h3, h4, h5⟩ := H.pos
  rcases hx with e | e | e | e | e
  · omega
  · omega
  · omega
  · omega
  · exact absurd (h5 0 e) (by omega)
/-- a row of kids is none of the heap's own blocks -/
theorem HeapAt.row (H : HeapAt w p d h c a b kb fd kf) {v : Value} {l : List Int} (hv : Ints w v l) {g : Nat} (hg : v.ownBlock = some g) : g ∉ foot p a b kb fd := by
  intro hx
  obtain ⟨cur, hk⟩ := hv.kind hg
  simp only [foot, List.mem_cons] at hx
  rcases hx with rfl | rfl | rfl | rfl | hx
  · have := H.blk; rw [hk] at this; injection this with this; injection this with _ this; exact absurd this (by decide)
  · have := H.al.blk; rw [hk] at this; injection this with this; injection this with _ this; exact absurd this (by decide)
  · obtain ⟨es, cl, this⟩ := H.al.map.kind; rw [hk] at this; cases this
  · obtain ⟨es, cl, this⟩ := H.km.kind; rw [hk] at this; cases this
  · rcases disk_kinds H.dk hx with ⟨es, cl, this⟩ | ⟨cs, this⟩ | ⟨cs, this⟩
    · rw [hk] at this; cases this
    · rw [hk] at this; injection this with this; injection this with _ this; exact absurd this (by decide)
    · rw [hk] at this; injection this with this; injection this with _ this; exact absurd this (by decide)
theorem HeapAt.pa (H : HeapAt w p d h c a b kb fd kf) : p ≠ a := by
  rintro rfl
  have := H.al.blk; rw [H.blk] at this; injection this with this; injection this with _ this; exact absurd this (by decide)
theorem HeapAt.pb (H : HeapAt w p d h c a b kb fd kf) : p ≠ b := by
  rintro rfl
  obtain ⟨es, cl, this⟩ := H.al.map.kind; rw [H.blk] at this; cases this
theorem HeapAt.pk (H : HeapAt w p d h c a b kb fd kf) : p ≠ kb := by
  rintro rfl
  obtain ⟨es, cl, this⟩ := H.km.kind; rw [H.blk] at this; cases this
theorem HeapAt.ab (H : HeapAt w p d h c a b kb fd kf) : a ≠ b := H.al.ne
theorem HeapAt.ak (H : HeapAt w p d h c a b kb fd kf) : a ≠ kb := by
  rintro rfl
  obtain ⟨es, cl, this⟩ := H.km.kind; rw [H.al.blk] at this; cases this
theorem HeapAt.pd (H : HeapAt w p d h c a b kb fd kf) : p ∉ fd := by
  intro hx
  have hk := H.blk
  rcases disk_kinds H.dk hx with ⟨es, cl, this⟩ | ⟨cs, this⟩ | ⟨cs, this⟩
  · rw [hk] at this; cases this
  · rw [hk] at this; injection this with this; injection this with _ this; exact absurd this (by decide)
  · rw [hk] at this; injection this with this; injection this with _ this; exact absurd this (by decide)
theorem HeapAt.ad (H : HeapAt w p d h c a b kb fd kf) : a ∉ fd := by
  intro hx
  have hk := H.al.blk
  rcases disk_kinds H.dk hx with ⟨es, cl, this⟩ | ⟨cs, this⟩ | ⟨cs, this⟩
  · rw [hk] at this; cases this
  · rw [hk] at this; injection this with this; injection this with _ this; exact absurd this (by decide)
  · rw [hk] at this; injection this with this; injection this with _ this; exact absurd this (by decide)
theorem HeapAt.dd (H : HeapAt w p d h c a b kb fd kf) : d ∈ fd := by
  obtain ⟨fb, lb, ov, _, rfl⟩ := H.dk
  simp [L3.fpOf]

theorem HeapAt.cell0 (H : HeapAt w p d h c a b kb fd kf) : w.cell? ⟨p, 0, none⟩ = some (.pointer (some ⟨a, 0, none⟩)) := by simp [World.cell?, H.blk]
theorem HeapAt.cell1 (H : HeapAt w p d h c a b kb fd kf) : w.cell? ⟨p, 1, none⟩ = some (.pointer (some ⟨d, 0, none⟩)) := by simp [World.cell?, H.blk]
theorem HeapAt.cell2 (H : HeapAt w p d h c a b kb fd kf) : w.cell? ⟨p, 2, none⟩ = some (.int .i64 h.gen) := by simp [World.cell?, H.blk]
theorem HeapAt.cell3 (H : HeapAt w p d h c a b kb fd kf) : w.cell? ⟨p, 3, none⟩ = some (.map (some kb)) := by simp [World.cell?, H.blk]

theorem tab_keep {fq : List Nat} (hT : L4.Tab w) (hm : Moves fq w w') (h0 : 0 ∉ fq) : L4.Tab w' := fun i hi =>
  (World.cell?_of_block (hm.block 0 (World.block_lt_of_cell? w ⟨0, i, none⟩ (hT i hi)) h0)).trans (hT i hi)
theorem Kid.same {o : Option Value} {l : List Int} (hk : Kid w o l) (hs : ∀ v, o = some v → ∀ g, v.ownBlock = some g → w'.heap[g]? = w.heap[g]?) : Kid w' o l := by
  cases o with
  | none => exact hk
  | some v => exact Ints.same hk (hs v rfl)
theorem HeapAt.kids (H : HeapAt w p d h c a b kb fd kf) {fq : List Nat} (hm : Moves fq w w') (hd : ∀ x ∈ fq, x ∈ foot p a b kb fd ∨ w.heap.size ≤ x) : ∀ q, q < 4096 → Kid w' (kf q) (h.kids q) := by
  intro q hq
  refine (H.kid q hq).same (fun v hv g hg => ?_)
  have hI : Ints w v (h.kids q) := by have := H.kid q hq; rw [hv] at this; exact this
  refine hm.block g (hI.lt g hg) (fun hx => ?_)
  rcases hd g hx with h1 | h1
  · exact H.row hI hg h1
  · have := hI.lt g hg; omega
/-- what turned is elsewhere -/
theorem HeapAt.keep {fq : List Nat} (H : HeapAt w p d h c a b kb fd kf) (hm : Moves fq w w') (hd : ∀ x ∈ fq, x ∉ foot p a b kb fd) (h0 : 0 ∉ fq) (hk : ∀ q, q < 4096 → Kid w' (kf q) (h.kids q)) : HeapAt w' p d h c a b kb fd kf := by
  have hn : ∀ x ∈ foot p a b kb fd, x ∉ fq := fun x hx hq => hd x hq hx
  exact ⟨(hm.block p H.plt (hn p (by simp [foot]))).trans H.blk, H.al.keep hm (hn a (by simp [foot])) (hn b (by simp [foot])), H.dk.keep (mv35 hm) (fun x hx => hn x (by simp [foot, hx])), H.km.same (hm.block kb H.km.lt (hn kb (by simp [foot]))), hk, H.bk, H.bd, H.kd, H.gen, H.len, tab_keep H.tab hm h0, H.pos⟩
theorem HeapAt.grow (H : HeapAt w p d h c a b kb fd kf) (hb : Below w.heap.size w w') : HeapAt w' p d h c a b kb fd kf :=
  H.keep (L5.Moves.of_below [] hb) (fun _ hx => absurd hx List.not_mem_nil) List.not_mem_nil (H.kids (L5.Moves.of_below [] hb) (fun _ hx => absurd hx List.not_mem_nil))
theorem HeapAt.mono {c' : Nat} (H : HeapAt w p d h c a b kb fd kf) (hc : c ≤ c') : HeapAt w p d h c' a b kb fd kf :=
  ⟨H.blk, H.al, H.dk.mono hc, H.km.mono hc, H.kid, H.bk, H.bd, H.kd, H.gen, H.len, H.tab, H.pos⟩
/-- the allocator has turned -/
theorem HeapAt.alloc (H : HeapAt w p d h c a b kb fd kf) {l : List L5.St} (hm : Moves [b] w w') (ha : L5.AllocAt w' a b 2 l) (hl : l.length = h.al.length) : HeapAt w' p d { h with al := l } c a b kb fd kf := by
  have h0 : 0 ∉ [b] := by have := H.pos.2.2.1; simp; omega
  exact ⟨(hm.block p H.plt (by have := H.pb; simp; exact this)).trans H.blk, ha, H.dk.keep (mv35 hm) (fun x hx hq => H.bd (by simp at hq; rw [← hq]; exact hx)), H.km.same (hm.block kb H.km.lt (by have := H.bk; simp; exact fun e => this e.symm)), H.kids hm (fun x hx => .inl (by simp at hx; simp [foot, hx])), H.bk, H.bd, H.kd, H.gen, by show 2 + l.length = _; rw [hl]; exact H.len, tab_keep H.tab hm h0, H.pos⟩
/-- the disk has turned -/
theorem HeapAt.disk (H : HeapAt w p d h c a b kb fd kf) {m : L3.Dk} {c' : Nat} (hm : L3.Turned w w' d m c' fd) (hl : m.old.length = h.dk.old.length) (hc : c ≤ c') : ∃ fd', HeapAt w' p d { h with dk := m } c' a b kb fd' kf ∧ Moves fd w w' ∧ ∀ x ∈ fd', x ∈ fd ∨ w.heap.size ≤ x := by
  obtain ⟨fd', hd', hm', hf⟩ := hm
  have hm' := mv53 hm'
  have h0 : 0 ∉ fd := fun hx => absurd (H.pos.2.2.2.2 0 hx) (by omega)
  have hne : ∀ x, x < w.heap.size → x ∉ fd → x ∉ fd' := fun x hx hn hq => by
    rcases hf x hq with h1 | h1
    · exact hn h1
    · omega
  refine ⟨fd', ⟨(hm'.block p H.plt H.pd).trans H.blk, H.al.keep hm' H.ad H.bd, hd', (H.km.same (hm'.block kb H.km.lt H.kd)).mono hc, H.kids hm' (fun x hx => .inl (by simp [foot, hx])), H.bk, hne b H.al.map.lt H.bd, hne kb H.km.lt H.kd, H.gen, by rw [hl]; exact H.len, tab_keep H.tab hm' h0, H.pos.1, H.pos.2.1, H.pos.2.2.1, H.pos.2.2.2.1, fun x hx => ?_⟩, hm', hf⟩
  rcases hf x hx with h1 | h1
  · exact H.pos.2.2.2.2 x h1
  · have := H.plt; omega

/-- a heap, its blocks at hand -/
def IsHeap (w : World) (p d : Nat) (h : Hp) (c : Nat) (F : List Nat) : Prop := ∃ a b kb fd kf, HeapAt w p d h c a b kb fd kf ∧ F = foot p a b kb fd
/-- what a call does to a heap: it is this one now, and nothing else has turned -/
def HTurned (w w' : World) (p d : Nat) (h : Hp) (c : Nat) (F : List Nat) : Prop := ∃ F', IsHeap w' p d h c F' ∧ Moves F w w' ∧ ∀ x ∈ F', x ∈ F ∨ w.heap.size ≤ x
variable {F : List Nat}
theorem IsHeap.lt (H : IsHeap w p d h c F) : ∀ x ∈ F, x < w.heap.size := by
  obtain ⟨a, b, kb, fd, kf, H, rfl⟩ := H
  exact H.lt
theorem IsHeap.zero (H : IsHeap w p d h c F) : 0 ∉ F := by
  obtain ⟨a, b, kb, fd, kf, H, rfl⟩ := H
  exact H.zero
theorem IsHeap.tab (H : IsHeap w p d h c F) : L4.Tab w := by
  obtain ⟨a, b, kb, fd, kf, H, rfl⟩ := H
  exact H.tab
theorem IsHeap.grow (H : IsHeap w p d h c F) (hb : Below w.heap.size w w') : IsHeap w' p d h c F := by
  obtain ⟨a, b, kb, fd, kf, H, rfl⟩ := H
  exact ⟨a, b, kb, fd, kf, H.grow hb, rfl⟩
theorem IsHeap.mono (H : IsHeap w p d h c F) {c' : Nat} (hc : c ≤ c') : IsHeap w p d h c' F := by
  obtain ⟨a, b, kb, fd, kf, H, rfl⟩ := H
  exact ⟨a, b, kb, fd, kf, H.mono hc, rfl⟩
theorem IsHeap.stays (H : IsHeap w p d h c F) (hb : Below w.heap.size w w') : HTurned w w' p d h c F := ⟨F, H.grow hb, L5.Moves.of_below _ hb, fun _ hx => .inl hx⟩
theorem HTurned.then {w1 w2 : World} {h2 : Hp} {c2 : Nat} {F1 : List Nat} (hm : Moves F w w1) (hf : ∀ x ∈ F1, x ∈ F ∨ w.heap.size ≤ x) (k : HTurned w1 w2 p d h2 c2 F1) : HTurned w w2 p d h2 c2 F := by
  obtain ⟨F2, k1, k2, k3⟩ := k
  refine ⟨F2, k1, hm.trans k2 hf, fun x hx => ?_⟩
  rcases k3 x hx with h1 | h1
  · exact hf x h1
  · exact .inr (Nat.le_trans hm.size h1)
theorem HTurned.below {B : Nat} {w0 : World} (h0 : Below B w0 w) (k : HTurned w w' p d h c F) (hF : ∀ x ∈ F, B ≤ x) (hB : B ≤ w.heap.size) : Below B w0 w' := by
  obtain ⟨F2, k1, k2, k3⟩ := k
  exact k2.below h0 hF hB
end Go.Proofs.YtlmgmdnmghgkbaaGreatDoor

/- A heap's small calls: Count, Room, Gen, Hold, Settle, New; a nil heap's. -/
namespace Go.Proofs.YtlmgmdnmghgkbaaGreatDoor
open Go.ChangeShapes Go.WideShapes Go.ChangeAt Go.RowKit
variable {w w' : World} {p d : Nat} {h : Hp} {c : Nat} {F : List Nat}

set_option maxHeartbeats 1000000 in
set_option maxRecDepth 20000 in
theorem hcount_any (n : Int) (hn : L5.I64 n) (w : World) (H : IsHeap w p d h c F) :
    Calls Tryz.prog 39 #[.pointer (some ⟨p, 0, none⟩), .int .i64 n] w fun e w' => e = .returned (.int .i64 (h.cnt n : Int)) ∧ w' = w := by
  obtain ⟨a, b, kb, fd, kf, H, rfl⟩ := H
  have c0 := H.cell0
  have HA := hide H.al
  have HN := hide hn
  clear H hn
  go_enter Tryz.func39, Tryz.ntmps39
  go_wp2_with (go_at_call 82; refine (L5.count_any n (unhide HN) _ (unhide HA)).mono ?_; rintro e w1 ⟨rfl, rfl⟩)
  go_ret
  exact ⟨rfl, rfl⟩
set_option maxHeartbeats 1000000 in
set_option maxRecDepth 20000 in
theorem hroom_any (w : World) (H : IsHeap w p d h c F) :
    Calls Tryz.prog 33 #[.pointer (some ⟨p, 0, none⟩)] w fun e w' => e = .returned (.int .i64 (L5.room h.al : Int)) ∧ Below w.heap.size w w' := by
  obtain ⟨a, b, kb, fd, kf, H, rfl⟩ := H
  have c0 := H.cell0
  have HA := hide H.al
  clear H
  go_enter Tryz.func33, Tryz.ntmps33
  go_wp2_with (go_at_call 84; refine (L5.room_any _ (unhide HA)).mono ?_; rintro e w1 ⟨rfl, hb⟩; have HB := hide hb; clear hb)
  go_ret
  exact ⟨rfl, unhide HB⟩
set_option maxHeartbeats 1000000 in
set_option maxRecDepth 20000 in
theorem hgen_any (w : World) (H : IsHeap w p d h c F) :
    Calls Tryz.prog 61 #[.pointer (some ⟨p, 0, none⟩)] w fun e w' => e = .returned (.int .i64 h.gen) ∧ w' = w := by
  obtain ⟨a, b, kb, fd, kf, H, rfl⟩ := H
  have c2 := H.cell2
  clear H
  go_enter Tryz.func61, Tryz.ntmps61
  go_wp2
  go_ret
  exact ⟨rfl, rfl⟩
theorem alloc_turned {a b kb : Nat} {fd : List Nat} {kf : Nat → Option Value} {l : List L5.St} (H : HeapAt w p d h c a b kb fd kf) (hm : Moves [b] w w') (ha : L5.AllocAt w' a b 2 l) (hl : l.length = h.al.length) : HTurned w w' p d { h with al := l } c (foot p a b kb fd) :=
  ⟨_, ⟨a, b, kb, fd, kf, H.alloc hm ha hl, rfl⟩, hm.mono (fun x hx => .inl (by simp at hx; simp [foot, hx])), fun _ hx => .inl hx⟩
set_option maxHeartbeats 1000000 in
set_option maxRecDepth 20000 in
theorem hhold_any (n : Int) (hn : L5.I64 n) (w : World) (H : IsHeap w p d h c F) :
    Calls Tryz.prog 55 #[.pointer (some ⟨p, 0, none⟩), .int .i64 n] w fun e w' => e = .returned (.int .i64 (L5.holdE 2 h.al n)) ∧ HTurned w w' p d (holdR h n) c F := by
  obtain ⟨a, b, kb, fd, kf, H, rfl⟩ := H
  have c0 := H.cell0
  have HH := hide H
  have HN := hide hn
  clear H hn
  go_enter Tryz.func55, Tryz.ntmps55
  go_wp2_with (go_at_call 90; refine (L5.hold_any n _ (unhide HH).al (unhide HN)).mono ?_; rintro e w1 ⟨rfl, ha, hm⟩; have HX := hide (And.intro ha hm); clear ha hm)
  go_ret
  obtain ⟨ha, hm⟩ := unhide HX
  exact ⟨rfl, alloc_turned (unhide HH) hm ha (length_hold _ _)⟩

/-! a nil heap -/
set_option maxHeartbeats 400000 in
theorem hcount_nil (n : Int) (w : World) : Calls Tryz.prog 39 #[.pointer none, .int .i64 n] w fun e w' => e = .returned (.int .i64 0) ∧ w' = w := by
  go_enter Tryz.func39, Tryz.ntmps39
  go_wp2
  go_ret
  exact ⟨rfl, rfl⟩
set_option maxHeartbeats 400000 in
theorem hroom_nil (w : World) : Calls Tryz.prog 33 #[.pointer none] w fun e w' => e = .returned (.int .i64 0) ∧ w' = w := by
  go_enter Tryz.func33, Tryz.ntmps33
  go_wp2
  go_ret
  exact ⟨rfl, rfl⟩
set_option maxHeartbeats 400000 in
theorem hgen_nil (w : World) : Calls Tryz.prog 61 #[.pointer none] w fun e w' => e = .returned (.int .i64 0) ∧ w' = w := by
  go_enter Tryz.func61, Tryz.ntmps61
  go_wp2
  go_ret
  exact ⟨rfl, rfl⟩
set_option maxHeartbeats 400000 in
theorem hhold_nil (n : Int) (w : World) : Calls Tryz.prog 55 #[.pointer none, .int .i64 n] w fun e w' => e = .returned (.int .i64 2) ∧ w' = w := by
  go_enter Tryz.func55, Tryz.ntmps55
  go_wp2
  go_ret
  exact ⟨rfl, rfl⟩
set_option maxHeartbeats 400000 in
theorem hdrop_nil (n : Int) (w : World) : Calls Tryz.prog 31 #[.pointer none, .int .i64 n] w fun e w' => e = .returned (.int .i64 2) ∧ Below w.heap.size w w' := by
  go_enter Tryz.func31, Tryz.ntmps31
  go_wp2
  go_ret
  exact ⟨rfl, (Below.refl _ _).alloc (Nat.le_refl _) _⟩
set_option maxHeartbeats 400000 in
theorem hsettle_nil (w : World) : Calls Tryz.prog 32 #[.pointer none] w fun e w' => e = .returned (.int .i64 2) ∧ w' = w := by
  go_enter Tryz.func32, Tryz.ntmps32
  go_wp2
  go_ret
  exact ⟨rfl, rfl⟩
set_option maxHeartbeats 400000 in
theorem hput_nil (v1 v2 v3 : Value) (w : World) : Calls Tryz.prog 35 #[.pointer none, .agg #[v1, v2, v3]] w fun e w' => e = .returned (.tuple #[.int .i64 0, .int .i64 2]) ∧ Below w.heap.size w w' := by
  go_enter Tryz.func35, Tryz.ntmps35
  go_wp2
  go_ret2
  exact ⟨rfl, (Below.refl _ _).alloc (Nat.le_refl _) _⟩
set_option maxHeartbeats 400000 in
theorem hget_nil (n : Int) (w : World) : Calls Tryz.prog 47 #[.pointer none, .int .i64 n] w fun e w' => e = .returned (.tuple #[.agg #[.bool false, .slice none 0 0, .slice none 0 0], .int .i64 2]) ∧ Below w.heap.size w w' := by
  go_enter Tryz.func47, Tryz.ntmps47
  go_wp2
  refine bodyPost_ret (v := .tuple #[.agg #[.bool false, .slice none 0 0, .slice none 0 0], .int .i64 2]) ?_ rfl ⟨rfl, ?_⟩
  · rw [results_cell_tmp rfl]
    go_simp
  · exact (Below.refl _ _).alloc (Nat.le_refl _) _
set_option maxHeartbeats 400000 in
theorem hnew_nil (g : Int) (w : World) : Calls Tryz.prog 16 #[.pointer none, .int .i64 g] w fun e w' => e = .returned (.tuple #[.pointer none, .int .i64 2]) ∧ w' = w := by
  go_enter Tryz.func16, Tryz.ntmps16
  go_wp2
  go_ret2
  simp
end Go.Proofs.YtlmgmdnmghgkbaaGreatDoor

/- A heap's calls: New, Settle; kindOf, placesOf, know. -/
namespace Go.Proofs.YtlmgmdnmghgkbaaGreatDoor
open Go.ChangeShapes Go.WideShapes Go.ChangeAt Go.RowKit
variable {w w' : World} {p d : Nat} {h : Hp} {c : Nat} {F : List Nat}

theorem below_then {W w1 w2 : World} (h : Below W.heap.size W w1) (k : Below w1.heap.size w1 w2) : Below W.heap.size W w2 := h.trans (k.mono h.size)
theorem below_alloc (w : World) (o : Obj) : Below w.heap.size w (w.alloc o) := (Below.refl _ _).alloc (Nat.le_refl _) _
theorem below_drew (w : World) : Below w.heap.size w w.drew := (Below.refl _ _).drew

/-! kindOf -/
set_option maxHeartbeats 400000 in
theorem kindOf_any (L : Bool) (v1 v2 : Value) (w : World) : Calls Tryz.prog 89 #[.agg #[.bool L, v1, v2]] w fun e w' => e = .returned (.int .i64 (if L then 1 else 2)) ∧ Below w.heap.size w w' := by
  cases L with
  | true =>
    go_enter Tryz.func89, Tryz.ntmps89
    go_wp2
    go_ret
    exact ⟨rfl, below_alloc _ _⟩
  | false =>
    go_enter Tryz.func89, Tryz.ntmps89
    go_wp2
    go_ret
    exact ⟨rfl, below_alloc _ _⟩

/-! placesOf -/
theorem info3 : (Tryz.prog.info? 3).map (fun i => (i.zero, i.size, i.bytes)) = some (some (.int .i64 0), 1, 8) := by kernel_rfl
set_option maxHeartbeats 2000000 in
set_option maxRecDepth 20000 in
theorem placesOf_any (kds : List L6.Kd) (ak : Option Addr) (ck : Nat) (w : World) (hk : L6.Row L6.kv w ak kds) (hl : kds.length ≤ 1100) :
    Calls Tryz.prog 86 #[.slice ak kds.length ck] w fun e w' => ∃ v, e = .returned v ∧ Ints w' v (kds.map (fun x => x.2)) ∧ (∀ g, v.ownBlock = some g → w.heap.size ≤ g) ∧ Below w.heap.size w w' := by
  have HK := hide hk
  have HL := hide hl
  clear hk hl
  go_enter Tryz.func86, Tryz.ntmps86
  go_wp2
  go_loopw [3, 8] (fun s t wr => ∃ (k : Nat) (v : Value), v = s ∧ k ≤ kds.length ∧ t = .int .i64 (k : Int) ∧ Ints wr v ((kds.take k).map (fun x => x.2)) ∧ (∀ g, v.ownBlock = some g → w.heap.size ≤ g) ∧ Below w.heap.size w wr) (fun s t _ => kds.length - (intOf t).toNat)
  case atStart => exact ⟨0, _, rfl, Nat.zero_le _, rfl, by simpa using Ints.nil _, (fun g hg => by cases hg), Below.refl _ _⟩
  case round =>
    obtain ⟨k, v, rfl, hk, rfl, hI, hg, hb⟩ := hrel
    have HI := hide hI
    have HG := hide hg
    have HB := hide hb
    clear hI hg hb
    by_cases hlt : k < kds.length
    · obtain ⟨b, off, rfl, hr⟩ := ((unhide HK).grow (unhide HB)).at hlt
      obtain ⟨⟨key, pl⟩, hx⟩ := L6.get_some hlt
      obtain ⟨c0, c1⟩ := hr k _ hx
      simp only at c0 c1
      have HX := hide hx
      clear hr hx
      have hlen : ((kds.take k).map (fun x : L6.Kd => x.2)).length = k := by rw [List.length_map, List.length_take]; omega
      have HOw : Hid ((wr.alloc (.cells #[.string key, .int .i64 pl] 153)).ownsRow 0 3 1 v k (((kds.take k).map (fun x : L6.Kd => x.2)).map intV)) := by
        have h1 : Ints _ _ _ := (unhide HI).grow (below_alloc wr (.cells #[.string key, .int .i64 pl] 153))
        unfold Ints at h1
        rw [hlen] at h1
        exact h1
      have HLN := hide hlen
      clear hlen
      have hL1 := unhide HL
      go_wp2_with (first
        | (at_builtin; refine L3.app_gen (wr := wr.alloc (.cells #[.string key, .int .i64 pl] 153)) (v := v) (n := k) (xs := ((kds.take k).map (fun x : L6.Kd => x.2)).map intV) (news := [.int .i64 pl]) Tryz.underlying39 info3 rfl (by decide) rfl _ _ rfl rfl (by show Value.slice (some ⟨wr.heap.size + 1, 0, none⟩) 1 1 = _; rw [World.size_alloc]) (unhide HOw) (Nat.zero_le _) rfl (by intro u hu; simp at hu; subst hu; rfl) (by have := unhide HL; omega) (by have := unhide HL; omega) ?_; intro a5 cap5 w5 hown5 hg5 hloc; have HY := hide (And.intro hown5 (And.intro hg5 hloc)); clear hown5 hg5 hloc)
        | go_in)
      go_roundw
      case rel =>
        obtain ⟨hown5, hg5, hloc⟩ := unhide HY
        have e1 : kds.take (k + 1) = kds.take k ++ [(key, pl)] := by rw [List.take_add_one, unhide HX]; rfl
        refine ⟨k + 1, _, rfl, by omega, by go_num, ?_, fun g hg => ?_, ?_⟩
        · unfold Ints
          rw [e1, List.map_append, List.length_append, unhide HLN, List.map_append]
          exact hown5
        · rcases hloc with e | ⟨g', e, hg'⟩
          · rw [e] at hg
            exact unhide HG g hg
          · rw [e] at hg
            cases hg
            exact Nat.le_trans (below_then (unhide HB) (below_alloc _ _)).size hg'
        · have hb := below_then (unhide HB) (below_alloc wr (.cells #[.string key, .int .i64 pl] 153))
          exact hb.grown hg5 hb.size (fun g hg => unhide HG g hg)
      case measure => simp [intOf]; omega
    · obtain rfl : k = kds.length := by omega
      rw [List.take_length] at HI
      go_wp2
      go_ret
      exact ⟨_, rfl, unhide HI, unhide HG, unhide HB⟩

/-! know -/
theorem HeapAt.kmap {a b kb : Nat} {fd : List Nat} {kf : Nat → Option Value} (H : HeapAt w p d h c a b kb fd kf) {kf' : Nat → Option Value} {kids' : Nat → List Int} {c' : Nat} (hg : w.grownBy w' (some kb)) (hm : Vm slR w' kb c' kf') (hc : c ≤ c') (hk : ∀ q, q < 4096 → Kid w' (kf' q) (kids' q)) : HeapAt w' p d { h with kids := kids' } c' a b kb fd kf' := by
  have hmv : Moves [kb] w w' := L5.Moves.of_grown hg (fun k hk => by cases hk; simp)
  have hk0 : 0 < kb := H.pos.2.2.2.1
  exact ⟨(hmv.block p H.plt (by have := H.pk; simp; exact this)).trans H.blk, H.al.keep hmv (by have := H.ak; simp; exact this) (by have := H.bk; simp; exact this), (H.dk.keep (mv35 hmv) (fun x hx hq => H.kd (by simp at hq; rw [← hq]; exact hx))).mono hc, hm, hk, H.bk, H.bd, H.kd, H.gen, H.len, tab_keep H.tab hmv (by simp; omega), H.pos⟩
/-- a store into the map of kids, as the walk meets it -/
theorem wp_kstore {ops : Array Oper} {rest : List Oper} {o : Oper} {a : Act} {Q : Exit → Act → World → Prop} {w : World} {b k : Nat} {f : Nat → Option Value} {n : Int} {u : Value} {t e : TypeId} {R : Rdg} {dt : DataW Unit} {ps : List MemPlace}
    (ht : Tryz.prog.underlying t = some (.map 3 e)) (hg : o.guard = none) (mo x v : Operand) (hop : o.op = Op.mapUpdate t mo x v) (hm : a.eval mo = .map (some b)) (hx : a.eval x = .int .i64 n) (hv : a.eval v = u)
    (h : Vm R w b k f) (h0 : 0 ≤ n) (h1 : n < 4096) (hu : R u = some (dt, ps)) (hk : k < maxLen)
    (hK : ∀ w', Vm R w' b (k + 1) (fun i => if i = n.toNat then some u else f i) → w.grownBy w' (some b) → wpList Tryz.prog ops Q rest (a.put o.dst undef) w') :
    wpList Tryz.prog ops Q (o :: rest) a w := by
  refine wpList_plain hg fun K' hK' => ?_
  obtain ⟨w', hrun, r1, r2⟩ := h.store ht h0 h1 hu hk
  unfold Oper.wp
  simp [execOp, hop, hm, hx, hv, hrun, Result.andThen]
  exact hK' _ _ (hK w' r1 r2)
theorem wp_kdel {ops : Array Oper} {rest : List Oper} {o : Oper} {a : Act} {Q : Exit → Act → World → Prop} {w : World} {b k : Nat} {f : Nat → Option Value} {n : Int} {t e : TypeId} {R : Rdg}
    (ht : Tryz.prog.underlying t = some (.map 3 e)) (hg : o.guard = none) (mo x : Operand) (hop : o.op = Op.call { callee := Callee.builtin Builtin.delete, args := #[mo, x], argTypes := #[t, 3] }) (hm : a.eval mo = .map (some b)) (hx : a.eval x = .int .i64 n)
    (h : Vm R w b k f) (h0 : 0 ≤ n) (h1 : n < 4096)
    (hK : ∀ w', Vm R w' b k (fun i => if i = n.toNat then none else f i) → w.grownBy w' (some b) → wpList Tryz.prog ops Q rest (a.put o.dst (.tuple #[])) w') :
    wpList Tryz.prog ops Q (o :: rest) a w := by
  refine wpList_plain hg fun K' hK' => ?_
  obtain ⟨w', hrun, r1, r2⟩ := h.del ht h0 h1 o.type
  unfold Oper.wp
  simp [execOp, hop, resolve, invoke, builtin, hm, hx, hrun, Result.andThen]
  exact hK' _ _ (hK w' r1 r2)

set_option maxHeartbeats 1000000 in
set_option maxRecDepth 20000 in
/-- kids are kept; of a place that has none so far -/
theorem know_any (q : Nat) (hq : q < 4096) (v : Value) (l : List Int) (w : World) (H : IsHeap w p d h c F) (hv : Ints w v l) (h0 : h.kids q = []) (hc : c ≤ 1000000) :
    Calls Tryz.prog 91 #[.pointer (some ⟨p, 0, none⟩), .int .i64 (q : Int), v] w fun e w' => e = .returned (.tuple #[]) ∧ HTurned w w' p d { h with kids := setK h.kids q l } (c + 1) F := by
  obtain ⟨a, b, kb, fd, kf, H, rfl⟩ := H
  obtain ⟨a0, cap0, rfl⟩ := hv.form
  by_cases hl : l = []
  · subst hl
    have e : setK h.kids q [] = h.kids := by
      funext i
      unfold setK
      split
      · rename_i e; rw [e, h0]
      · rfl
    have hn : ¬ (0 : Int) < ((([] : List Int).length : Nat) : Int) := by simp
    have HH := hide H
    clear H hv
    go_enter Tryz.func91, Tryz.ntmps91
    go_wp2
    go_end0
    try rw [e]
    exact ⟨rfl, IsHeap.stays ⟨a, b, kb, fd, kf, (unhide HH).mono (Nat.le_succ c), rfl⟩ (Below.refl _ _)⟩
  · have hn : (0 : Int) < ((l.length : Nat) : Int) := by have := List.length_pos_iff.2 hl; omega
    obtain ⟨dt, hdt⟩ := hv.reads
    have c3 := H.cell3
    have HH := hide H
    have HV := hide hv
    have HD := hide hdt
    clear H hv hdt
    go_enter Tryz.func91, Tryz.ntmps91
    go_wp2_with (at_mapUpdate; refine wp_kstore (R := slR) Tryz.underlying112 rfl _ _ _ rfl rfl rfl rfl (unhide HH).km (by omega) (by omega) (unhide HD) (by unfold maxLen; omega) ?_; intro w3 hs3 hg3; have HX := hide (And.intro hs3 hg3); clear hs3 hg3)
    go_end0
    obtain ⟨hs3, hg3⟩ := unhide HX
    have H := unhide HH
    have hmv : Moves [kb] w w3 := L5.Moves.of_grown hg3 (fun k hk => by cases hk; simp)
    have e2 : ((q : Int)).toNat = q := rfl
    rw [e2] at hs3
    refine ⟨rfl, _, ⟨a, b, kb, fd, _, H.kmap (kids' := setK h.kids q l) hg3 hs3 (Nat.le_succ c) (fun i hi => ?_), rfl⟩, hmv.mono (fun x hx => .inl (by simp at hx; simp [foot, hx])), fun _ hx => .inl hx⟩
    unfold setK
    by_cases e : i = q
    · rw [if_pos e, if_pos e]
      exact Ints.same (unhide HV) (fun g hg => hmv.block g ((unhide HV).lt g hg) (by have := H.row (unhide HV) hg; simp [foot] at this; simp; exact this.2.2.2.1))
    · rw [if_neg e, if_neg e]
      exact H.kids hmv (fun x hx => .inl (by simp at hx; simp [foot, hx])) i hi
end Go.Proofs.YtlmgmdnmghgkbaaGreatDoor

/- A heap's calls: New, Settle. -/
namespace Go.Proofs.YtlmgmdnmghgkbaaGreatDoor
open Go.ChangeShapes Go.WideShapes Go.ChangeAt Go.RowKit
variable {w w' : World} {p d : Nat} {h : Hp} {c : Nat} {F : List Nat}

theorem HeapAt.free {a b kb : Nat} {fd : List Nat} {kf : Nat → Option Value} (H : HeapAt w p d h c a b kb fd kf) (i : Nat) : w.frozen? ⟨p, i, none⟩ = false := by simp [World.frozen?, H.blk]
/-- another generation -/
theorem HeapAt.older {a b kb : Nat} {fd : List Nat} {kf : Nat → Option Value} (H : HeapAt w p d h c a b kb fd kf) (g : Int) (hg : 0 ≤ g ∧ g ≤ 1152921504606846976) : HeapAt (w.setCell ⟨p, 2, none⟩ (.int .i64 g)) p d { h with gen := g } c a b kb fd kf := by
  have hm : Moves [p] w (w.setCell ⟨p, 2, none⟩ (.int .i64 g)) := mv53 (L3.Moves.set _ _ _ _ (by simp))
  have hp : 0 < p := H.pos.1
  refine ⟨?_, H.al.keep hm (by have := H.pa; simp; exact fun e => this e.symm) (by have := H.pb; simp; exact fun e => this e.symm), H.dk.keep (mv35 hm) (fun x hx hq => H.pd (by simp at hq; rw [← hq]; exact hx)), H.km.same (hm.block kb H.km.lt (by have := H.pk; simp; exact fun e => this e.symm)), H.kids hm (fun x hx => .inl (by simp at hx; simp [foot, hx])), H.bk, H.bd, H.kd, hg, H.len, tab_keep H.tab hm (by simp; omega), H.pos⟩
  have hb := H.blk
  simp [World.setCell, Array.getElem?_modify, hb]

set_option maxHeartbeats 1000000 in
set_option maxRecDepth 20000 in
theorem hsettle_any (w : World) (H : IsHeap w p d h c F) :
    Calls Tryz.prog 32 #[.pointer (some ⟨p, 0, none⟩)] w fun e w' => e = .returned (.int .i64 (settleE h)) ∧ HTurned w w' p d (settleM h) c F := by
  obtain ⟨a, b, kb, fd, kf, H, rfl⟩ := H
  obtain ⟨g0, g1⟩ := H.gen
  unfold settleE settleM
  by_cases hg : h.gen = 1152921504606846976
  · rw [if_pos hg, if_pos hg]
    have c2 := H.cell2
    rw [hg] at c2
    have HH := hide H
    clear H g0 g1
    go_enter Tryz.func32, Tryz.ntmps32
    go_wp2
    go_ret
    exact ⟨rfl, IsHeap.stays ⟨a, b, kb, fd, kf, unhide HH, rfl⟩ (Below.refl _ _)⟩
  · rw [if_neg hg, if_neg hg]
    have c0 := H.cell0
    have c2 := H.cell2
    have gb : (h.gen == 1152921504606846976) = false := beq_eq_false_iff_ne.2 hg
    have HH : Hid (HeapAt w.drew p d h c a b kb fd kf) := H.grow (below_drew w)
    have HP := hide H.pb
    have hlt : h.gen < 1152921504606846976 := by omega
    obtain ⟨G, hG⟩ : ∃ x, x = h.gen := ⟨_, rfl⟩
    rw [← hG] at c2 gb hlt g0 g1 hg
    have HL := hide hlt
    have HG := hide g0
    have HEG := hide hG
    clear H hlt g0 g1 hg hG
    go_enter Tryz.func32, Tryz.ntmps32
    go_wp2_with fail
    clear gb
    go_region_held3 (fun w' => w'.cell? ⟨p, 0, none⟩ = some (.pointer (some ⟨a, 0, none⟩)) ∧ w'.cell? ⟨p, 2, none⟩ = some (.int .i64 G))
      (first | assumption | exact ⟨c0, c2⟩ | exact ⟨k0, k2⟩)
      (first
        | (go_at_call 83; go_split_ands; refine (L5.free_any G _ (unhide HH).al).mono ?_; rintro x w1 ⟨rfl, ha, hm⟩; have k0 := (mv35 hm).cell c0 (by have := unhide HP; simp; exact this); have k2 := (mv35 hm).cell c2 (by have := unhide HP; simp; exact this); have HX := hide (And.intro ha hm); clear ha hm))
    obtain ⟨ha, hm⟩ := unhide HX
    have H1 := (unhide HH).alloc hm ha (length_free _ _)
    have f2 := H1.free 2
    have HH1 := hide H1
    have HM := hide hm
    clear H1 ha hm HX c0 c2
    have hlt := unhide HL
    have g0 := unhide HG
    go_wp2
    go_ret
    have hG := unhide HEG
    subst hG
    refine ⟨rfl, _, ⟨a, b, kb, fd, kf, (unhide HH1).older (h.gen + 1) (by omega), rfl⟩, ?_, fun _ hx => .inl hx⟩
    exact ((L5.Moves.of_below _ (below_drew w)).trans (unhide HM) (fun x hx => .inl (by simp at hx; simp [foot, hx]))).trans (mv53 (L3.Moves.set (fp := [p]) _ p 2 _ (by simp))) (fun x hx => .inl (by simp at hx; simp [foot, hx]))

/-! New -/
def newH (m : L3.Dk) (g : Int) : Hp := ⟨m, L5.newM 2 m.old.length, g, fun _ => []⟩
set_option maxHeartbeats 1000000 in
set_option maxRecDepth 20000 in
theorem hnew_arg (g : Int) (w : World) (h : g < 0 ∨ 1152921504606846976 < g) :
    Calls Tryz.prog 16 #[.pointer (some ⟨d, 0, none⟩), .int .i64 g] w fun e w' => e = .returned (.tuple #[.pointer none, .int .i64 1]) ∧ w' = w := by
  by_cases h1 : g < 0
  · go_enter Tryz.func16, Tryz.ntmps16
    go_wp2
    go_ret2
    simp
  · have h2 : 1152921504606846976 < g := by omega
    clear h
    go_enter Tryz.func16, Tryz.ntmps16
    go_wp2
    go_ret2
    simp
set_option maxHeartbeats 1000000 in
set_option maxRecDepth 20000 in
theorem hnew_small {m : L3.Dk} {fd : List Nat} (g : Int) (w : World) (H : L3.IsDisk w d m c fd) (h1 : ¬ g < 0) (h2 : ¬ 1152921504606846976 < g) (h3 : m.old.length < 8) :
    Calls Tryz.prog 16 #[.pointer (some ⟨d, 0, none⟩), .int .i64 g] w fun e w' => e = .returned (.tuple #[.pointer none, .int .i64 100]) ∧ w' = w := by
  obtain ⟨fb, lb, ov, H, rfl⟩ := H
  have h4 : (m.old.length : Int) < 8 := by omega
  have HH := hide H
  clear H h3
  go_enter Tryz.func16, Tryz.ntmps16
  go_wp2_with (go_at_call 50; refine (L3.sectors_any _ (unhide HH)).mono ?_; rintro e w1 ⟨rfl, rfl⟩)
  go_ret2
  simp
theorem anew2 (t : Nat) (w : World) (h1 : 2 ≤ t) (h2 : t ≤ 4096) :
    Calls Tryz.prog 51 #[.int .i64 2, .int .i64 (t : Int)] w fun e w' => ∃ d b, e = .returned (.tuple #[.pointer (some ⟨d, 0, none⟩), .int .i64 0]) ∧ L5.AllocAt w' d b 2 (L5.newM 2 t) ∧ Below w.heap.size w w' ∧ w.heap.size ≤ d ∧ w.heap.size ≤ b := L5.new_ok 2 t w h1 h2
set_option maxHeartbeats 1000000 in
set_option maxRecDepth 20000 in
theorem hnew_ok {m : L3.Dk} {fd : List Nat} (g : Int) (w : World) (H : L3.IsDisk w d m c fd) (hT : L4.Tab w) (hp : ∀ x ∈ fd, 0 < x) (h1 : ¬ g < 0) (h2 : ¬ 1152921504606846976 < g) (h3 : ¬ m.old.length < 8) :
    Calls Tryz.prog 16 #[.pointer (some ⟨d, 0, none⟩), .int .i64 g] w fun e w' => ∃ p F, e = .returned (.tuple #[.pointer (some ⟨p, 0, none⟩), .int .i64 0]) ∧ IsHeap w' p d (newH m g) c F ∧ Below w.heap.size w w' ∧ ∀ x ∈ F, x ∈ fd ∨ w.heap.size ≤ x := by
  have h4 : ¬ (m.old.length : Int) < 8 := by omega
  have hmm := @run_makeMap Tryz.prog
  have hfew := H.ok.many
  have h2s : 2 ≤ m.old.length := by omega
  have HH := hide H
  have HT := hide hT
  have HP := hide hp
  have HF := hide hfew
  have H2 := hide h2s
  clear H hT hp hfew h3 h2s
  go_enter Tryz.func16, Tryz.ntmps16
  go_wp2_with (first
    | (go_at_call 50; obtain ⟨fb, lb, ov, hD, _⟩ := unhide HH; refine (L3.sectors_any _ hD).mono ?_; clear hD; rintro e w1 ⟨rfl, hw⟩; rw [hw]; clear hw w1)
    | (go_at_call 51; refine (anew2 m.old.length _ (unhide H2) (unhide HF)).mono ?_; rintro e w2 ⟨a, b, rfl, ha, hb, hl⟩; have HX := hide (And.intro ha (And.intro hb hl)); clear ha hb hl))
  go_ret2
  obtain ⟨ha, hb, hla, hlb⟩ := unhide HX
  have H := unhide HH
  have hT := unhide HT
  have hsz : 0 < w.heap.size := World.block_lt_of_cell? w ⟨0, 0, none⟩ (hT 0 (by omega))
  have hb1 : Below w2.heap.size w2 ((w2.alloc (.map #[] 0)).alloc (.cells #[.pointer (some ⟨a, 0, none⟩), .pointer (some ⟨d, 0, none⟩), .int .i64 g, .map (some w2.heap.size)] 114)) := ((Below.refl _ _).alloc (Nat.le_refl _) _).alloc (by simp) _
  have hb2 := below_then hb hb1
  have hs := hb.size
  have hlt := H.lt
  refine ⟨w2.heap.size + 1, _, rfl, ⟨a, b, w2.heap.size, fd, fun _ => none, ⟨?_, ha.grow hb1, H.grow hb2, ?_, fun q _ => rfl, ?_, ?_, ?_, ⟨by show 0 ≤ g; omega, by show g ≤ _; omega⟩, ?_, ?_, ?_⟩, rfl⟩, hb2, ?_⟩
  · show ((w2.heap.push _).push _)[w2.heap.size + 1]? = _
    rw [Array.getElem?_push, if_pos (by simp)]
    rfl
  · exact ((Vm.made slR w2).same (Below.heap_alloc _ _ _ (by simp))).mono (Nat.zero_le _)
  · have := ha.map.lt; omega
  · intro hx; have := hlt b hx; omega
  · intro hx; have := hlt _ hx; omega
  · show 2 + (L5.newM 2 m.old.length).length = m.old.length
    unfold L5.newM
    rw [List.length_replicate]
    have := unhide H2
    omega
  · exact tab_keep hT (L5.Moves.of_below [] hb2) List.not_mem_nil
  · refine ⟨by omega, by omega, by omega, by omega, unhide HP⟩
  · intro x hx
    simp only [foot, List.mem_cons] at hx
    rcases hx with rfl | rfl | rfl | rfl | hx
    · right; omega
    · right; omega
    · right; omega
    · right; omega
    · exact .inl hx
end Go.Proofs.YtlmgmdnmghgkbaaGreatDoor

/- mayHold: may each of these be held once more, as often as it is named? -/
namespace Go.Proofs.YtlmgmdnmghgkbaaGreatDoor
open Go.ChangeShapes Go.WideShapes Go.ChangeAt Go.RowKit
variable {w w' : World} {p d : Nat} {h : Hp} {c : Nat} {F : List Nat}

/-- how often each is named among the first k -/
def nmF (l : List Int) (k : Nat) : Nat → Option Value := fun i => if (l.take k).count (i : Int) = 0 then none else some (.int .i64 ((l.take k).count (i : Int) : Int))
theorem nmF_get (l : List Int) (k : Nat) (x : Int) (h0 : 0 ≤ x) : (nmF l k x.toNat).getD (.int .i64 0) = .int .i64 ((l.take k).count x : Int) := by
  unfold nmF
  rw [Int.toNat_of_nonneg h0]
  split
  · rename_i e
    rw [e]
    rfl
  · rfl
theorem nmF_next (l : List Int) (k : Nat) (hk : k < l.length) (h0 : 0 ≤ l[k]) : (fun i : Nat => if i = (l[k]).toNat then some (.int .i64 (((l.take k).count l[k] : Nat) + 1 : Int)) else nmF l k i) = nmF l (k + 1) := by
  funext i
  have e1 : l.take (k + 1) = l.take k ++ [l[k]] := by rw [List.take_add_one, List.getElem?_eq_getElem hk]; rfl
  unfold nmF
  rw [e1]
  by_cases e : i = (l[k]).toNat
  · have e2 : (i : Int) = l[k] := by omega
    rw [if_pos e, e2, List.count_append, List.count_singleton_self, if_neg (by omega)]
    rfl
  · have e2 : ¬ l[k] = (i : Int) := by omega
    have e3 : [l[k]].count (i : Int) = 0 := by rw [List.count_singleton]; simp [e2]
    rw [if_neg e, List.count_append, e3, Nat.add_zero]

theorem any_of {l : List Int} {f : Int → Bool} {k : Nat} (hk : k < l.length) (h : f l[k] = true) : l.any f = true := List.any_eq_true.2 ⟨_, List.getElem_mem hk, h⟩
theorem any_no {l : List Int} {f : Int → Bool} (h : ∀ k (hk : k < l.length), f l[k] = false) : l.any f = false := by
  rw [List.any_eq_false]
  intro x hx
  obtain ⟨k, hk, rfl⟩ := List.getElem_of_mem hx
  rw [h k hk]
  simp

set_option maxHeartbeats 2000000 in
set_option maxRecDepth 20000 in
theorem mayHold_any (l : List Int) (v : Value) (w : World) (H : IsHeap w p d h c F) (hv : Ints w v l) (hk : ∀ x ∈ l, 2 ≤ x ∧ x < 4096) (hl : l.length ≤ 1100) :
    Calls Tryz.prog 87 #[.pointer (some ⟨p, 0, none⟩), v] w fun e w' => e = .returned (.int .i64 (mayE h.al l)) ∧ Below w.heap.size w w' := by
  obtain ⟨a, b, kb, fd, kf, H, rfl⟩ := H
  have hmm := @run_makeMap Tryz.prog
  obtain ⟨a0, cap0, rfl⟩ := hv.form
  have HH := hide H
  have HV := hide hv
  have HK := hide hk
  have HL := hide hl
  have HW0 := hide ((Vm.made inR w))
  have HB0 := hide (below_alloc w (.map #[] 0))
  clear H hv hk hl
  go_enter Tryz.func87, Tryz.ntmps87
  go_wp2
  clear hmm
  obtain ⟨mb, hmb⟩ : ∃ x, x = w.heap.size := ⟨_, rfl⟩
  have HM := hide hmb
  rw [← hmb] at HW0 ⊢
  clear hmb
  go_loopw [13] (fun t wr => ∃ k : Nat, k ≤ l.length ∧ t = .int .i64 (k : Int) ∧ (∀ j (hj : j < l.length), j < k → cntL h.al l[j] ≠ 0) ∧ Vm inR wr mb k (nmF l k) ∧ Below w.heap.size w wr) (fun t _ => l.length - (intOf t).toNat)
  case atStart => exact ⟨0, Nat.zero_le _, rfl, (fun j hj h => absurd h (Nat.not_lt_zero _)), by have e : nmF l 0 = fun _ => none := rfl; rw [e]; exact unhide HW0, unhide HB0⟩
  case round =>
    clear HW0 HB0
    obtain ⟨k, hk, rfl, hc0, hvm, hb⟩ := hrel
    have HC := hide hc0
    have HVM := hide hvm
    have HB := hide hb
    have hL := unhide HL
    clear hc0 hvm hb
    by_cases hlt : k < l.length
    · obtain ⟨g, rfl, hcell⟩ := ((unhide HV).grow (unhide HB)).at k hlt
      have hx := unhide HK l[k] (List.getElem_mem hlt)
      have c0 := ((unhide HH).grow (unhide HB)).cell0
      have HA := hide ((unhide HH).grow (unhide HB)).al
      have hI : L5.I64 l[k] := by unfold L5.I64; omega
      have HI := hide hI
      have hlt' : (k : Int) < (l.length : Int) := by omega
      have hlk := (unhide HVM).look inR_apart Tryz.underlying234 (zero3 wr) rfl (n := l[k]) (by omega) (by omega)
      rw [nmF_get l k _ (by omega)] at hlk
      have HX := hide hx
      obtain ⟨X, hX⟩ : ∃ y, y = l[k] := ⟨_, rfl⟩
      rw [← hX] at hcell HI hlk HX
      have HXE := hide hX
      have hct : (l.take k).count X ≤ 1100 := by have := List.count_le_length (a := X) (l := l.take k); rw [List.length_take] at this; omega
      clear hx hI hX
      by_cases hz : cntL h.al X = 0
      · have hz' : ((L5.cntS (L5.sec 2 h.al X) : Nat) : Int) = 0 := by have : L5.cntS (L5.sec 2 h.al X) = 0 := hz; omega
        have HZ := hide hz
        clear hz
        go_wp2_with (go_at_call 82; refine (L5.count_any X (unhide HI) _ (unhide HA)).mono ?_; rintro e w1 ⟨rfl, hw⟩; rw [hw]; clear hw w1; rw [hz'])
        go_ret
        refine ⟨?_, unhide HB⟩
        unfold mayE
        rw [any_of hlt (by rw [← unhide HXE]; simpa using unhide HZ), if_pos rfl]
        rfl
      · have hz' : (((L5.cntS (L5.sec 2 h.al X) : Nat) : Int) == 0) = false := beq_eq_false_iff_ne.2 (by have : ¬ L5.cntS (L5.sec 2 h.al X) = 0 := hz; omega)
        have HZ := hide hz
        clear hz
        obtain ⟨C, hC⟩ : ∃ y, y = ((L5.cntS (L5.sec 2 h.al X) : Nat) : Int) := ⟨_, rfl⟩
        rw [← hC] at hz'
        have HCE := hide hC
        clear hC
        have hwrap : IntKind.i64.wrap ((((l.take k).count X : Nat) : Int) + 1) = (((l.take k).count X : Nat) : Int) + 1 := by rw [IntKind.wrap_i64]; omega
        go_wp2_with (first
          | (go_at_call 82; refine (L5.count_any X (unhide HI) _ (unhide HA)).mono ?_; rintro e w1 ⟨rfl, hw⟩; rw [hw]; clear hw w1; rw [← unhide HCE])
          | (at_mapUpdate; refine wp_kstore (R := inR) (u := .int .i64 ((((l.take k).count X : Nat) : Int) + 1)) Tryz.underlying234 rfl _ _ _ rfl rfl rfl (by first | rfl | go_num) (unhide HVM) (by have := unhide HX; omega) (by have := unhide HX; omega) rfl (by unfold maxLen; have := unhide HL; omega) ?_; intro w3 hs3 hg3; have HY := hide (And.intro hs3 hg3); clear hs3 hg3))
        go_roundw
        case rel =>
          obtain ⟨hs3, hg3⟩ := unhide HY
          refine ⟨k + 1, by omega, by go_num, fun j hj hjk => ?_, ?_, ?_⟩
          · by_cases e : j = k
            · subst e
              rw [← unhide HXE]
              exact unhide HZ
            · exact unhide HC j hj (by omega)
          · rw [← nmF_next l k hlt (by have := unhide HX; rw [← unhide HXE]; omega), ← unhide HXE]
            exact hs3
          · have hb := unhide HB
            exact hb.grown hg3 hb.size (fun g hg => by injection hg with hg; have := unhide HM; omega)
        case measure => simp [intOf]; omega
    · obtain rfl : k = l.length := by omega
      clear hlt
      have hno : l.any (fun k => decide (cntL h.al k = 0)) = false := any_no (fun j hj => by simpa using unhide HC j hj hj)
      have HNO := hide hno
      clear hno HC
      go_wp2
      go_loopw [32] (fun t wr => ∃ k : Nat, k ≤ l.length ∧ t = .int .i64 (k : Int) ∧ (∀ j (hj : j < l.length), j < k → ¬ 5000 < cntL h.al l[j] + l.count l[j]) ∧ Vm inR wr mb l.length (nmF l l.length) ∧ Below w.heap.size w wr) (fun t _ => l.length - (intOf t).toNat)
      case atStart => exact ⟨0, Nat.zero_le _, rfl, (fun j hj h => absurd h (Nat.not_lt_zero _)), unhide HVM, unhide HB⟩
      case round =>
        clear HVM HB
        obtain ⟨k, hk, rfl, hc0, hvm, hb⟩ := hrel
        have HC := hide hc0
        have HVM : Hid (Vm inR wr.drew mb l.length (nmF l l.length)) := hvm.same rfl
        have HVM0 := hide hvm
        have HB0 := hide hb
        have HB := hide (below_then hb (below_drew wr))
        clear hc0 hvm hb
        by_cases hlt : k < l.length
        · obtain ⟨g, rfl, hcell⟩ := ((unhide HV).grow (unhide HB0)).at k hlt
          have hx := unhide HK l[k] (List.getElem_mem hlt)
          have c0 := ((unhide HH).grow (unhide HB)).cell0
          have HA := hide ((unhide HH).grow (unhide HB)).al
          have hI : L5.I64 l[k] := by unfold L5.I64; omega
          have HI := hide hI
          have hlt' : (k : Int) < (l.length : Int) := by omega
          have hlk := (unhide HVM).look inR_apart Tryz.underlying234 (zero3 wr.drew) rfl (n := l[k]) (by omega) (by omega)
          rw [nmF_get l l.length _ (by omega), List.take_length] at hlk
          have HX := hide hx
          obtain ⟨X, hX⟩ : ∃ y, y = l[k] := ⟨_, rfl⟩
          rw [← hX] at hcell HI hlk HX
          have HXE := hide hX
          have hct : l.count X ≤ 1100 := by have := List.count_le_length (a := X) (l := l); omega
          have hcn : L5.cntS (L5.sec 2 h.al X) ≤ 5000 := by
            have hs := (unhide HA).ok.sec X
            revert hs
            cases L5.sec 2 h.al X with
            | none => intro _; exact Nat.zero_le _
            | some y => intro hs; exact hs.1
          clear hx hI hX
          obtain ⟨C, hC⟩ : ∃ y, y = L5.cntS (L5.sec 2 h.al X) := ⟨_, rfl⟩
          obtain ⟨T, hTq⟩ : ∃ y, y = l.count X := ⟨_, rfl⟩
          rw [← hC] at hcn
          rw [← hTq] at hct hlk
          have HCE := hide hC
          have HTE := hide hTq
          have hwrap : IntKind.i64.wrap ((C : Int) + (T : Int)) = (C : Int) + (T : Int) := by rw [IntKind.wrap_i64]; omega
          clear hC hTq
          go_wp2_with fail
          go_region_held3 (fun w' => w'.cell? ⟨p, 0, none⟩ = some (.pointer (some ⟨a, 0, none⟩)) ∧ Sem.run Tryz.prog (Instr.lookup 234 (.map (some mb)) (.int .i64 X) false) w' = .ok (.int .i64 (T : Int)) w')
            (first | assumption | exact ⟨c0, hlk⟩)
            (first
              | (go_at_call 82; go_split_ands; refine (L5.count_any X (unhide HI) _ (unhide HA)).mono ?_; rintro e w1 ⟨rfl, hw⟩; rw [hw]; clear hw w1; rw [← unhide HCE]))
          all_goals
            by_cases hbig : 5000 < (C : Int) + (T : Int)
            · go_wp2
              go_ret
              refine ⟨?_, unhide HB⟩
              unfold mayE
              rw [unhide HNO, if_neg (by decide), any_of hlt (by
                rw [← unhide HXE, ← unhide HTE]
                have e : cntL h.al X = C := (unhide HCE).symm
                rw [e]
                have : 5000 < C + T := by omega
                simpa using this), if_pos rfl]
              rfl
            · go_wp2
              go_roundw
              case rel =>
                refine ⟨k + 1, by omega, by go_num, fun j hj hjk => ?_, unhide HVM, unhide HB⟩
                by_cases e : j = k
                · subst e
                  rw [← unhide HXE, ← unhide HTE]
                  have e : cntL h.al X = C := (unhide HCE).symm
                  rw [e]
                  omega
                · exact unhide HC j hj (by omega)
              case measure => simp [intOf]; omega
        · obtain rfl : k = l.length := by omega
          clear hlt
          go_wp2
          go_ret
          refine ⟨?_, unhide HB0⟩
          unfold mayE
          rw [unhide HNO, if_neg (by decide), any_no (fun j hj => by simpa using unhide HC j hj hj), if_neg (by decide)]
          rfl
end Go.Proofs.YtlmgmdnmghgkbaaGreatDoor
