/- Room, Waiting. -/
import Derived.Test.YtkfpeffiphdhmaaDrop
namespace Go.Proofs.Ytkfpeffiphdhmaa
open Go.ChangeShapes Go.WideShapes Go.ChangeAt Go.RowKit Go.Maps

variable {w w' : World} {d b fr : Nat} {l : List St}

set_option maxHeartbeats 400000 in
theorem room_nil (w : World) : Calls Try.prog 23 #[.pointer none] w fun e w' => e = .returned (.int .i64 0) ∧ w' = w := by
  go_enter Try.func23, Try.ntmps23
  go_wp2
  go_ret
  exact ⟨rfl, rfl⟩
set_option maxHeartbeats 2000000 in
set_option maxRecDepth 20000 in
theorem room_any (w : World) (h : AllocAt w d b fr l) :
    Calls Try.prog 23 #[.pointer (some ⟨d, 0, none⟩)] w fun e w' => e = .returned (.int .i64 (room l : Int)) ∧ Below w.heap.size w w' := by
  have c0 := h.cell0
  have c1 := h.cell1
  have c2 := h.cell2
  have hlen := fun ty => World.ownsMap.len (h.map.same (w' := w.drew) rfl) Try.underlying47 ty
  have hsz := mp_size l fr
  have hrl := room_le l
  have hfew := h.ok.few
  have e0 : ((Maps.size (mp fr l) : Nat) : Int) = (l.length : Int) - (room l : Int) := by omega
  rw [e0] at hlen
  have w1 : IntKind.i64.wrap ((fr : Int) + (l.length : Int) - (fr : Int)) = (l.length : Int) := by rw [IntKind.wrap_i64]; omega
  have w2 : IntKind.i64.wrap ((l.length : Int) - ((l.length : Int) - (room l : Int))) = (room l : Int) := by rw [IntKind.wrap_i64]; omega
  clear h hsz hrl hfew e0
  generalize (l.length : Int) - (room l : Int) = z at *
  generalize (l.length : Int) = y at *
  generalize (fr : Int) + y = t at *
  generalize (room l : Int) = r at *
  generalize (fr : Int) = f at *
  go_enter Try.func23, Try.ntmps23
  go_wp2_with fail
  go_region
  go_wp2
  go_ret
  exact ⟨rfl, (Below.refl _ _).drew⟩

/-! Waiting -/
set_option maxHeartbeats 400000 in
theorem waiting_nil (w : World) : Calls Try.prog 25 #[.pointer none] w fun e w' => e = .returned (.int .i64 0) ∧ w' = w := by
  go_enter Try.func25, Try.ntmps25
  go_wp2
  go_ret
  exact ⟨rfl, rfl⟩
def litLeft (left : Lit → Bool) : Int → Bool := fun z => left (.int .i64 z)
theorem litLeft_strike (left : Lit → Bool) (x : Int) : litLeft (fun z => left z && !z.sameKey (.int .i64 x)) = fun z => litLeft left z && !decide (z = x) := by
  funext z
  simp [litLeft, Lit.sameKey]
theorem left_at {fr : Nat} {l : List St} {kl : Lit} {h : Nat} {g : Int} {z0 : DataW Unit × List MemPlace} (hz : z0 = (datum h g, [])) (hat : ∀ zd, (mp fr l).atKey kl zd = z0.1) : ∃ i : Nat, l[i]? = some (some (h, g)) ∧ kl = .int .i64 ((fr : Int) + (i : Int)) := by
  obtain ⟨i, h', g', hi, rfl⟩ := mp_has_key fr l kl (Maps.has_true_of_atKey hat)
  refine ⟨i, ?_, rfl⟩
  have h1 := hat (datum 0 0)
  rw [mp_at (sec_mem.2 ⟨i, hi, rfl⟩), hz] at h1
  obtain ⟨rfl, rfl⟩ := datum_inj h1
  exact hi
theorem tally_has (p : St → Bool) (hp : p none = false) (l : List St) (fr : Nat) : tally p (litLeft (Maps.has (mp fr l))) fr l = 0 := by
  refine tally_start p _ l fr (fun i s hi hs => ?_)
  show Maps.has (mp fr l) (.int .i64 ((fr : Int) + (i : Int))) = true
  rw [mp_has]
  cases s with
  | none => rw [hp] at hs; cases hs
  | some x =>
    obtain ⟨h, g⟩ := x
    rw [sec_mem.2 ⟨i, hi, rfl⟩]
    rfl
theorem below_grown {w w1 w2 : World} {r : Nat} (h : Below w.heap.size w w1) (hg : w1.grownBy w2 (some r)) (hr : w.heap.size ≤ r) : Below w.heap.size w w2 :=
  Moves.below h (Moves.of_grown (fp := [r]) hg (by simp)) (by simpa using hr) h.size
set_option maxHeartbeats 2000000 in
set_option maxRecDepth 20000 in
theorem waiting_any (w : World) (h : AllocAt w d b fr l) :
    Calls Try.prog 25 #[.pointer (some ⟨d, 0, none⟩)] w fun e w' => e = .returned (.int .i64 (waiting l : Int)) ∧ Below w.heap.size w w' := by
  have c2 := h.cell2
  have hm : w.ownsMap Try.prog 3 secR b 4096 (mp fr l) := h.map
  have hlen : l.length ≤ 4096 := by have := h.ok.few; omega
  have hblt := h.map.lt
  clear h
  go_enter Try.func25, Try.ntmps25
  go_wp2_with (first
    | (at_range; refine wpList_range_own _ rfl _ 47 rfl 3 56 law3 Try.underlying47 secR b 4096 _ rfl hm ?_; intro w0 hrg0 hg0 hs0)
    | go_in)
  go_frame
  go_loopw [3] (fun v wr => ∃ (left : Lit → Bool) (cnt : Nat), wr.ranges Try.prog 3 secR b w.heap.size 4096 (mp fr l) left cnt ∧ v = .int .i64 (tally waitS (litLeft left) fr l : Int) ∧ Below w.heap.size w wr)
    (fun _ wr => wr.rangeLeft b w.heap.size)
  case atStart =>
    refine ⟨_, _, hrg0, by rw [tally_has waitS rfl]; rfl, ?_⟩
    exact (Moves.of_grown (fp := []) hg0 (by simp)).to_below
  case round =>
    obtain ⟨left, cnt, hrg, rfl, hbel⟩ := hrel
    have htl := tally_le waitS (litLeft left) l fr
    have HBEL := hide hbel
    clear hbel
    go_wp2_with (first
      | (at_next; refine wpList_next_ranges _ rfl _ rfl 3 law3 secR (Value.int .i64) (fun hg : Nat × Int => Value.agg #[.int .i64 (hg.1 : Int), .int .i64 hg.2]) (fun key kl hk => by obtain ⟨x, e, _⟩ := key3_inv hk; exact ⟨x, e⟩) (fun v y hv => by obtain ⟨h, g, e, _⟩ := secR_inv hv; exact ⟨(h, g), e⟩) b w.heap.size 4096 _ _ _ rfl hrg ?_ ?_)
      | go_in)
    · -- nothing is left
      intro hc0 hl0
      have e : tally waitS (litLeft left) fr l = waiting l := tally_end waitS _ l fr (fun i => hl0 _)
      rw [e]
      clear e hl0 hrg
      go_wp2
      go_ret
      exact ⟨rfl, unhide HBEL⟩
    · -- an entry has come
      intro x h g kl yd yp w1 cnt1 hkey hlx hv hat hrg1 hlt hg1 hs1 hen
      have ey : (yd, yp) = (datum h g, []) := by rw [secR_mk] at hv; exact (Option.some.inj hv).symm
      obtain ⟨i, hi, ekl⟩ := left_at ey hat
      subst ekl
      have ex : x = (fr : Int) + (i : Int) := by
        obtain ⟨x', e1, e2⟩ := key3_inv hkey
        cases e1
        cases e2
        rfl
      subst ex
      have hst := tally_step waitS (litLeft left) l fr i _ hi hlx
      rw [← litLeft_strike] at hst
      have HB1 := hide (below_grown (unhide HBEL) hg1 (Nat.le_refl _))
      have HR := hide (hrg1.alloc (.cells #[.int .i64 (h : Int), .int .i64 g] 56))
      have HO := hide (And.intro hrg hlt)
      clear hrg hrg1 hg1 hat hv hkey hlx ey hs1 hi
      by_cases h0 : h = 0
      · subst h0
        have hst : tally waitS (litLeft fun z => left z && !z.sameKey (.int .i64 ((fr : Int) + (i : Int)))) fr l = tally waitS (litLeft left) fr l + 1 := hst
        go_wp2
        go_roundw
        case rel => exact ⟨_, cnt1, unhide HR, by rw [hst]; go_num, (unhide HB1).alloc (unhide HB1).size _⟩
        case measure => rw [(unhide HO).1.left_eq]; exact Nat.lt_of_le_of_lt (Nat.le_of_eq (unhide HR).left_eq) (unhide HO).2
      · have hst : tally waitS (litLeft fun z => left z && !z.sameKey (.int .i64 ((fr : Int) + (i : Int)))) fr l = tally waitS (litLeft left) fr l := by
          rw [hst]
          obtain ⟨k, rfl⟩ : ∃ k, h = k + 1 := ⟨h - 1, by omega⟩
          rfl
        have h0' : ¬ (h : Int) = 0 := by omega
        go_wp2
        go_roundw
        case rel => exact ⟨_, cnt1, unhide HR, by rw [hst], (unhide HB1).alloc (unhide HB1).size _⟩
        case measure => rw [(unhide HO).1.left_eq]; exact Nat.lt_of_le_of_lt (Nat.le_of_eq (unhide HR).left_eq) (unhide HO).2
end Go.Proofs.Ytkfpeffiphdhmaa
