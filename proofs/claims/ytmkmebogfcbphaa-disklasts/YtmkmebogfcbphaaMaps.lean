/- A map of sectors cloned, and one copied into another. -/
import Derived.Test.YtmkmebogfcbphaaSec
import Derived.Laws.Externs
import Derived.Maps.RangeWalk
import Derived.Laws.IdiomRangeMap
namespace Go.Proofs.Ytmkmebogfcbphaa
open Go.ChangeShapes Go.WideShapes Go.ChangeAt Go.RowKit Go.Maps

set_option maxHeartbeats 2000000 in
set_option maxRecDepth 100000 in
theorem mclone_any (b k : Nat) (f : Nat → Option ByteArray) (w : World) (h : Sec w b k f) :
    Calls Try.prog 38 #[.map (some b)] w fun e w' => e = .returned (.map (some w.heap.size)) ∧ Sec w' w.heap.size k f ∧ Below w.heap.size w w' ∧ w.heap.size < w'.heap.size := by
  obtain ⟨D, ⟨es, clock, hb, F, hs, hD⟩, hr⟩ := h
  have key : Calls Try.prog 38 #[.map (some b)] w fun e w' => e = .returned (.map (some w.heap.size)) ∧ w' = w.alloc (.map es clock) := by
    have hq := fun w => run_eql_map_nil_sl (P := Try.prog) w 55 _ _ (some b) Try.underlying55
    go_enter Try.func38, Try.ntmps38
    go_wp2
    rw [run_callFunc_extern Try.func45 (by kernel_rfl) (by kernel_rfl) (by kernel_rfl) (e := Extern.MapsClone.clone) (by kernel_rfl), run_maps_clone_sl w 55 hb]
    simp only [Result.andThen]
    rw [Oper.upon_value]
    go_wp2
    rw [run_typeAssert_map_sl _ 55 20 _ _ _ Try.underlying55]
    simp only [Result.andThen]
    rw [Oper.upon_value]
    go_wp2
    go_ret
    exact ⟨rfl, rfl⟩
  refine key.mono fun e w' ⟨he, hw⟩ => ?_
  subst hw
  exact ⟨he, ⟨D, ⟨es, clock, (MapKept.heap_alloc w _).1, F, hs, hD⟩, hr⟩, (Below.refl _ w).alloc (Nat.le_refl _) _, by simp⟩

/-- one map's sectors over another's -/
def over (f g : Nat → Option ByteArray) : Nat → Option ByteArray := fun i => match g i with | some s => some s | none => f i

set_option maxHeartbeats 4000000 in
set_option maxRecDepth 100000 in
theorem mcopy_any (bd bs nd ns : Nat) (f g : Nat → Option ByteArray) (w : World) (hd0 : Sec w bd nd f) (hs0 : Sec w bs ns g) (hne : bd ≠ bs) (hroom : nd + ns ≤ maxLen) :
    Calls Try.prog 40 #[.map (some bd), .map (some bs)] w fun e w' => e = .returned (.tuple #[]) ∧ Sec w' bd (nd + ns) (over f g) ∧ w.grownBy w' (some bd) := by
  obtain ⟨Dd, hd, hrd⟩ := hd0
  obtain ⟨Ds, hs, hrs⟩ := hs0
  have hsz := hs.size_le
  have key : Calls Try.prog 40 #[.map (some bd), .map (some bs)] w fun e w' => e = .returned (.tuple #[]) ∧ (∃ Dout, w'.ownsMap Try.prog 3 secR bd (nd + ns) Dout ∧ Merged Dout Dd Ds (fun _ => false)) ∧ w.grownBy w' (some bd) := by
    have hbd := hd.lt
    have hbs := hs.lt
    clear hrd hrs
    go_enter Try.func40, Try.ntmps40
    go_wp2_with (first
      | (at_range; refine wpList_range_own _ rfl _ 55 rfl 3 71 law3 Try.underlying55 secR bs ns _ rfl hs ?_; intro w0 hrg0 hg0 hs0)
      | go_in)
    go_frame
    go_loopw [8] (fun _ wr => ∃ (left : Lit → Bool) (cnt : Nat) (Dout : DataW Unit), wr.ranges Try.prog 3 secR bs w.heap.size ns Ds left cnt ∧ cnt ≤ Maps.size Ds ∧
        wr.ownsMap Try.prog 3 secR bd (nd + (Maps.size Ds - cnt)) Dout ∧ Merged Dout Dd Ds left ∧ w.grownBy wr (some bd))
      (fun _ wr => wr.rangeLeft bs w.heap.size)
    case atStart =>
      exact ⟨_, _, Dd, hrg0, Nat.le_refl _, (hd.kept hg0 (by simp)).mono (by omega), merged_start Dd Ds, hg0.but _⟩
    case round =>
      obtain ⟨left, cnt, Dout, hrg, hcs, hout, hM, hgw⟩ := hrel
      go_wp2_with (first
        | (at_next; refine wpList_next_ranges _ rfl _ rfl 3 law3 secR (Value.int .i64) (fun s => Value.agg #[.string s]) (fun key kl hk => by obtain ⟨x, e, _⟩ := keyOf_int_inv Try.underlying3 hk; exact ⟨x, e⟩) (fun v y hv => by obtain ⟨s, e, _⟩ := secR_inv hv; exact ⟨s, e⟩) bs w.heap.size ns _ _ _ rfl hrg ?_ ?_)
        | go_in)
      · -- nothing is left
        intro hc0 hl0
        go_wp2
        go_end0
        subst hc0
        have e : left = fun _ => false := funext hl0
        subst e
        exact ⟨rfl, ⟨Dout, hout.mono (by omega), hM⟩, hgw⟩
      · -- an entry has come
        intro x c kl yd yp w1 cnt1 hkey hlx hv hat hrg1 hlt hg1 hs1 hen
        have hout1 := hout.kept hg1 (fun e => by have := Option.some.inj e; omega)
        go_wp2_with (first
          | (at_mapUpdate; refine wpList_mapUpdate_own _ rfl _ _ _ 55 rfl 3 71 law3 Try.underlying55 secR bd _ _ rfl (hout1.alloc _) (by omega) _ _ _ rfl rfl hkey yd yp hv ?_; intro w2 hout2 hg2; go_frame)
          | go_in)
        have hrg2 := (hrg1.alloc (.cells #[.string c] 71)).kept hg2 (fun e => hne (Option.some.inj e).symm) (fun e => by have := Option.some.inj e; omega)
        go_roundw
        case rel =>
          exact ⟨_, cnt1, _, hrg2, by omega, hout2.mono (by omega), merged_step hM hout.isMap (law3.key hkey) hat, ((hgw.andThen hg1 (fun j hj => .inl (by cases hj; exact Nat.le_refl _))).andThen (World.grownBy_alloc _ _ (some bd)) (fun j hj => .inr hj)).andThen hg2 (fun j hj => .inr hj)⟩
        case measure => rw [hrg2.left_eq, hrg.left_eq]; exact hlt
  refine key.mono fun e w' ⟨he, ⟨Dout, hown, hM⟩, hg⟩ => ⟨he, ⟨Dout, hown, fun i hi => ?_⟩, hg⟩
  have h1 := hrd i hi
  have h2 := hrs i hi
  unfold over
  refine ⟨?_, ?_⟩
  · rw [hM.1, h1.1, h2.1]
    cases g i <;> cases f i <;> rfl
  · intro s hs' z
    rw [hM.2, h2.1]
    cases hgi : g i with
    | none =>
      rw [hgi] at hs'
      simp only [Option.isSome_none, Bool.false_and, Bool.false_eq_true, if_false]
      exact h1.2 s hs' z
    | some t =>
      rw [hgi] at hs'
      cases hs'
      simp only [Option.isSome_some, Bool.not_false, Bool.and_self, if_true]
      exact h2.2 _ hgi z
end Go.Proofs.Ytmkmebogfcbphaa
