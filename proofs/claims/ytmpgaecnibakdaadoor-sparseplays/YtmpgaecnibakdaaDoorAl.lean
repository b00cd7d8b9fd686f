/- The same pieces in new memory. -/
import Derived.Test.YtmpgaecnibakdaaDoorWi
namespace Go.Proofs.YtmpgaecnibakdaaDoor
open Go.ChangeShapes Go.WideShapes Go.ChangeAt Go.RowKit
attribute [local go_sem] Oper.semAt_some

theorem two_set {α : Type} (f g : α → Value) (x : α) : ∀ (l : List α) (i : Nat), i < l.length → ((two f g l).set (i * 2) (f x)).set (i * 2 + 1) (g x) = two f g (l.set i x)
  | [], i, h => absurd h (by simp)
  | y :: t, 0, _ => by
    have e : two f g (y :: t) = f y :: g y :: two f g t := rfl
    rw [e]
    rfl
  | y :: t, i + 1, h => by
    have e : two f g (y :: t) = f y :: g y :: two f g t := rfl
    have e2 : two f g ((y :: t).set (i + 1) x) = f y :: g y :: two f g (t.set i x) := rfl
    rw [e, e2, ← two_set f g x t i (by simpa using h), show (i + 1) * 2 = i * 2 + 1 + 1 by omega]
    rfl
theorem own_put {α : Type} {f g : α → Value} {T : TypeId} {B : Nat} {w : World} {b n cap : Nat} {l : List α} (h : w.ownsRow B T 2 (.slice (some ⟨b, 0, none⟩) n cap) n (two f g l)) (i : Nat) (x : α) (hi : i < l.length) :
    ((w.setCell ⟨b, i * 2, none⟩ (f x)).setCell ⟨b, i * 2 + 1, none⟩ (g x)).ownsRow B T 2 (.slice (some ⟨b, 0, none⟩) n cap) n (two f g (l.set i x)) := by
  rw [← two_set f g x l i hi]
  exact (World.ownsRow.stored (World.ownsRow.stored h (i * 2) (f x)).1 (i * 2 + 1) (g x)).1
theorem made_two {α : Type} (f g : α → Value) (x : α) (n : Nat) : (madeCells #[f x, g x] (n * 2)).toList = two f g (List.replicate n x) := by
  apply List.ext_getElem?
  intro j
  by_cases hj : j < n * 2
  · have h1 := two_get f g (List.replicate n x) (j / 2) x (by rw [List.getElem?_replicate, if_pos (by omega)])
    rcases Nat.mod_two_eq_zero_or_one j with hm | hm
    · rw [show j / 2 * 2 = j by omega] at h1
      rw [h1.1]
      simp [madeCells, hj, hm]
    · rw [show j / 2 * 2 + 1 = j by omega] at h1
      rw [h1.2]
      simp [madeCells, hj, hm]
  · rw [List.getElem?_eq_none (by rw [Array.length_toList, size_madeCells]; omega), List.getElem?_eq_none (by rw [two_length, List.length_replicate]; omega)]

set_option maxHeartbeats 4000000 in
set_option maxRecDepth 10000 in
theorem alike_any (a : Option Addr) (cap : Nat) (l : List Pc) (w : World) (hr : Ps w a l) (hl : l.length ≤ 10000) (hd : ∀ p ∈ l, p.2.length ≤ 10000) :
    Calls Tryd.prog 30 #[.slice a l.length cap] w fun e w' => ∃ a' cap', e = .returned (.slice a' l.length cap') ∧ OwnP w.heap.size w' (.slice a' l.length cap') l ∧ Below w.heap.size w w' := by
  obtain ⟨i0, hi, hz0, hz1, hz2⟩ := info_parts info58
  have HR := hide hr
  clear hr
  go_enter Tryd.func30, Tryd.ntmps30
  go_wp2_with (at_make; refine wpList_make_full _ rfl _ _ 22 rfl w.heap.size 58 i0 _ 2 Tryd.underlying22 hi hz0 hz1 .i64 .i64 _ _ l.length rfl rfl rfl rfl (by rw [hz2]; omega) (by unfold maxLen; omega) (Nat.le_refl _) ?_; intro w1 ho hg; rw [show (Value.agg #[.int .i64 0, .string ⟨#[]⟩]).cells = #[ixV (0, []), daV (0, [])] from rfl, made_two] at ho; have HO := hide ho; have HB := hide ((Below.refl w.heap.size w).grown hg (Nat.le_refl _) (fun k hk => by cases hk)); clear ho hg)
  obtain ⟨g, hg⟩ : ∃ g, g = w.heap.size := ⟨_, rfl⟩
  have hgw : w.heap.size ≤ g := Nat.le_of_eq hg.symm
  rw [← hg] at HO ⊢
  clear hg
  go_loopw [11] (fun t wr => ∃ k : Nat, k ≤ l.length ∧ t = .int .i64 k ∧ wr.ownsRow g 58 2 (.slice (some ⟨g, 0, none⟩) l.length l.length) l.length (two ixV daV (l.take k ++ List.replicate (l.length - k) (0, []))) ∧ Below w.heap.size w wr) (fun t _ => l.length - (intOf t).toNat)
  case atStart => exact ⟨0, Nat.zero_le _, rfl, unhide HO, unhide HB⟩
  case round =>
    obtain ⟨k, hk, rfl, ho, hb⟩ := hrel
    by_cases hlt : k < l.length
    · obtain ⟨⟨ix, da⟩, hx⟩ := get_some hlt
      have hrr := (unhide HR).below hb
      obtain ⟨b, off, rfl, hcell⟩ := hrr.at hlt
      have c0 := (hcell _ _ hx).1
      have c1 := (hcell _ _ hx).2
      unfold ixV at c0
      unfold daV at c1
      simp only at c0 c1
      have c2 := c1
      rw [← Nat.add_assoc] at c2
      have hds : (tx da).size ≤ 1000000 := by rw [tx_size]; have := hd (ix, da) (List.mem_of_getElem? hx); simp only at this; omega
      have HCL := hide (fun W => clone_any (tx da) W hds)
      have b1 := b_alloc wr (.cells #[.int .i64 ix, .string (tx da)] 58)
      have n1 := heap_alloc_new wr (.cells #[.int .i64 ix, .string (tx da)] 58)
      have z1 : (wr.alloc (.cells #[.int .i64 ix, .string (tx da)] 58)).heap.size = wr.heap.size + 1 := by simp
      have ho1 := ownsRow_below ho b1
      have hb1 := below_then hb b1
      have hkl : (k : Int) < (l.length : Int) := by omega
      generalize hW : wr.alloc (.cells #[.int .i64 ix, .string (tx da)] 58) = w2 at *
      obtain ⟨q, hq⟩ : ∃ q, q = wr.heap.size := ⟨_, rfl⟩
      rw [← hq] at n1
      have d0 : w2.drew.cell? ⟨q, 0, none⟩ = some (.int .i64 ix) := (cell_of_row w2 q 0 _ _ _ n1).trans rfl
      have d1 : w2.drew.cell? ⟨q, 1, none⟩ = some (.string (tx da)) := (cell_of_row w2 q 1 _ _ _ n1).trans rfl
      have hgq : g ≠ q := by
        have := (World.ownsRow.lt ho g rfl).2
        omega
      have H0 : Hid (Below w.heap.size w w2.drew ∧ w2.drew.cell? ⟨q, 0, none⟩ = some (.int .i64 ix) ∧ w2.drew.cell? ⟨q, 1, none⟩ = some (.string (tx da))) := ⟨hb1.drew, d0, d1⟩
      have KP : Hid (∀ wa wb, (Below w.heap.size w wa ∧ wa.cell? ⟨q, 0, none⟩ = some (.int .i64 ix) ∧ wa.cell? ⟨q, 1, none⟩ = some (.string (tx da))) → Below wa.heap.size wa wb → (Below w.heap.size w wb ∧ wb.cell? ⟨q, 0, none⟩ = some (.int .i64 ix) ∧ wb.cell? ⟨q, 1, none⟩ = some (.string (tx da)))) := fun wa wb h hb => ⟨below_then h.1 hb, cell_keep h.2.1 hb, cell_keep h.2.2 hb⟩
      have KS : Hid (∀ wa i j u v, (Below w.heap.size w wa ∧ wa.cell? ⟨q, 0, none⟩ = some (.int .i64 ix) ∧ wa.cell? ⟨q, 1, none⟩ = some (.string (tx da))) → (Below w.heap.size w ((wa.setCell ⟨g, i, none⟩ u).setCell ⟨g, j, none⟩ v) ∧ ((wa.setCell ⟨g, i, none⟩ u).setCell ⟨g, j, none⟩ v).cell? ⟨q, 0, none⟩ = some (.int .i64 ix) ∧ ((wa.setCell ⟨g, i, none⟩ u).setCell ⟨g, j, none⟩ v).cell? ⟨q, 1, none⟩ = some (.string (tx da)))) := fun wa i j u v h =>
        ⟨(h.1.setCell hgw u).setCell hgw v, (World.cell?_of_block ((Below.heap_setCell _ ⟨g, j, none⟩ v q hgq.symm).trans (Below.heap_setCell wa ⟨g, i, none⟩ u q hgq.symm))).trans h.2.1, (World.cell?_of_block ((Below.heap_setCell _ ⟨g, j, none⟩ v q hgq.symm).trans (Below.heap_setCell wa ⟨g, i, none⟩ u q hgq.symm))).trans h.2.2⟩
      have HO1 := hide (show w2.drew.ownsRow g 58 2 (.slice (some ⟨g, 0, none⟩) l.length l.length) l.length (two ixV daV (l.take k ++ List.replicate (l.length - k) (0, []))) from ho1)
      have hlen : (l.take k ++ List.replicate (l.length - k) ((0, []) : Pc)).length = l.length := by simp; omega
      have CF : Hid (∀ W : World, W.ownsRow g 58 2 (.slice (some ⟨g, 0, none⟩) l.length l.length) l.length (two ixV daV (l.take k ++ List.replicate (l.length - k) (0, []))) → (∃ u, W.cell? ⟨g, k * 2, none⟩ = some u) ∧ (∃ u, W.cell? ⟨g, k * 2 + 1, none⟩ = some u) ∧ W.frozen? ⟨g, k * 2, none⟩ = false ∧ W.frozen? ⟨g, k * 2 + 1, none⟩ = false) := fun W h => by
        obtain ⟨x, hx⟩ := get_some (l := l.take k ++ List.replicate (l.length - k) ((0, []) : Pc)) (i := k) (by omega)
        obtain ⟨p0, p1⟩ := two_get ixV daV _ k x hx
        exact ⟨⟨_, (World.ownsRow.cellAt h (k * 2) (by omega)).trans p0⟩, ⟨_, (World.ownsRow.cellAt h (k * 2 + 1) (by omega)).trans p1⟩, World.ownsRow.frozenAt h _, World.ownsRow.frozenAt h _⟩
      have HX := hide hx
      have HHB := hide hb1
      clear hx hcell hrr ho hb b1 n1 ho1 hb1 HR HO HB
      go_wp2
      rw [← hq]
      clear hW hq
      go_region_held3 (fun w' => Below w.heap.size w w' ∧ w'.cell? ⟨q, 0, none⟩ = some (.int .i64 ix) ∧ w'.cell? ⟨q, 1, none⟩ = some (.string (tx da)))
        (first | (with_reducible assumption) | (with_reducible exact unhide H0) | (with_reducible exact unhide KS _ _ _ _ _ H2))
        (first
          | (go_at_call 38; with_reducible refine (unhide HCL _).mono ?_; rintro e w3 ⟨rfl, hb⟩; have H2 := unhide KP _ _ (unhide H0) hb; have HO2 := hide (ownsRow_below (unhide HO1) hb); obtain ⟨⟨u0, x0⟩, ⟨u1, x1⟩, f0, f1⟩ := unhide CF _ (unhide HO2); clear hb))
      have hb9 := H2.1
      have ho9 := own_put (f := ixV) (g := daV) (unhide HO2) k ((ix, da) : Pc) (by omega)
      have hset : (l.take k ++ List.replicate (l.length - k) ((0, []) : Pc)).set k (ix, da) = l.take (k + 1) ++ List.replicate (l.length - (k + 1)) (0, []) := by
        have hx := unhide HX
        rw [List.set_append_right _ _ (by rw [List.length_take]; omega), List.length_take, Nat.min_eq_left (by omega), Nat.sub_self, show l.length - k = (l.length - (k + 1)) + 1 by omega, List.replicate_succ, List.set_cons_zero, List.take_add_one, hx]
        simp
      rw [hset] at ho9
      have HO9 := hide ho9
      have HB9 := hide (((hb9.setCell (p := ⟨g, k * 2, none⟩) hgw (.int .i64 ix)).setCell (p := ⟨g, k * 2 + 1, none⟩) hgw (.string (tx da))))
      clear ho9 hset hb9
      go_wp2
      go_roundw
      case rel => exact ⟨k + 1, by omega, by go_num, unhide HO9, unhide HB9⟩
      case measure => simp [intOf]; omega
    · have hkl : ¬ (k : Int) < (l.length : Int) := by omega
      obtain rfl : k = l.length := by omega
      rw [List.take_length, Nat.sub_self, List.replicate_zero, List.append_nil] at ho
      have HO9 := hide (ownsRow_base ho hgw)
      have HB9 := hide hb
      clear ho hb HR HO HB
      go_wp2
      go_ret
      exact ⟨_, _, rfl, unhide HO9, unhide HB9⟩
end Go.Proofs.YtmpgaecnibakdaaDoor
