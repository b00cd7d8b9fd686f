/- How many entries fit into a part. -/
import Derived.Test.YtepkifledonldaaEach
import Derived.Test.YtepkifledonldaaCut
namespace Go.Proofs.Ytepkifledonldaa
open Go.ChangeShapes Go.WideShapes Go.ChangeAt Go.RowKit

/-- the first so many fit: the rest decides -/
def Fitto {α : Type} (g : α → List Nat) (l : List α) (k : Nat) : Prop := Cut.fit g [] l = k + Cut.fit g (l.take k) (l.drop k)
theorem Fitto.start {α : Type} (g : α → List Nat) (l : List α) : Fitto g l 0 := by simp [Fitto]
theorem size_take {α : Type} (g : α → List Nat) {l : List α} {k : Nat} {x : α} (h : l[k]? = some x) : sz (k + 1) ((l.take k).flatMap g ++ g x).length = Cut.size g (l.take k ++ [x]) := by
  have hk : k < l.length := (List.getElem?_eq_some_iff.1 h).1
  have e1 : (l.take k ++ [x]).length = k + 1 := by
    rw [List.length_append, List.length_take]
    show min k l.length + 1 = _
    omega
  have e2 : (l.take k ++ [x]).flatMap g = (l.take k).flatMap g ++ g x := by simp
  unfold Cut.size
  rw [e1, e2]
theorem Fitto.next {α : Type} {g : α → List Nat} {l : List α} {k : Nat} {x : α} (h : Fitto g l k) (hx : l[k]? = some x) (hs : ¬ 1007 < Cut.size g (l.take k ++ [x])) : Fitto g l (k + 1) := by
  unfold Fitto at *
  rw [h, drop_get hx, Cut.fit, if_neg hs, List.take_add_one, hx]
  show k + (_ + 1) = k + 1 + _
  have : (some x).toList = [x] := rfl
  rw [this]
  omega
theorem Fitto.stop {α : Type} {g : α → List Nat} {l : List α} {k : Nat} {x : α} (h : Fitto g l k) (hx : l[k]? = some x) (hs : 1007 < Cut.size g (l.take k ++ [x])) : Cut.fit g [] l = k := by
  unfold Fitto at h
  rw [h, drop_get hx, Cut.fit, if_pos hs]
  rfl
theorem Fitto.done {α : Type} {g : α → List Nat} {l : List α} (h : Fitto g l l.length) : Cut.fit g [] l = l.length := by
  unfold Fitto at h
  rw [h, List.drop_length]
  simp [Cut.fit]

set_option maxRecDepth 10000 in
set_option maxHeartbeats 2000000 in
theorem fittingI_any (B r : Nat) (a : Option Addr) (cap : Nat) (es : List It) (w : World) (h : Wr B w r 0 []) (hrow : Row Value.string w a es) (hlow : ∀ k, k < w.heap.size → k ≠ r → k < B) (hn : es.length ≤ 900000) (hl : (es.flatMap itL).length ≤ 900000) :
    Calls Try.prog 37 #[.slice a es.length cap, .func (.func 38) #[.pointer (some ⟨r, 0, none⟩)] #[]] w fun e w' => e = .returned (.int .i64 (Cut.fit itL [] es : Int)) ∧ Below B w w' := by
  have HR := hide hrow
  have HW0 := hide h
  have HLOW := hide hlow
  clear hrow h hlow
  go_enter Try.func37, Try.ntmps37
  go_wp2
  go_loopw [9] (fun t wr => ∃ k : Nat, k ≤ es.length ∧ t = .int .i64 k ∧ Fitto itL es k ∧ Wr B wr r k ((es.take k).flatMap itL) ∧ Below B w wr) (fun t _ => es.length - (intOf t).toNat)
  case atStart => exact ⟨0, Nat.zero_le _, rfl, Fitto.start _ _, unhide HW0, Below.refl _ _⟩
  case round =>
    obtain ⟨k, hk, rfl, hft, hw, hbel⟩ := hrel
    have HW := hide hw
    have HBel := hide hbel
    have HFT := hide hft
    clear hw hbel hft
    by_cases hlt : k < es.length
    · obtain ⟨b, off, rfl, hr⟩ := (unhide HR).at hlt
      obtain ⟨⟨key, val⟩, hx⟩ := get_some hlt
      have hbB : b < B := by
        have h1 := (hr k _ hx).1
        refine unhide HLOW b (World.block_lt_of_cell? _ _ h1) (fun e => ?_)
        subst e
        obtain ⟨_, v, hb, ho⟩ := unhide HW0
        obtain ⟨a, cap, e⟩ := ho.shape
        exact row_not_writer hb ⟨_, _, _, e⟩ (hr k _ hx).1
      have c0 := ((unhide HBel).cell (p := ⟨b, off + k * 2, none⟩) hbB).trans (hr k _ hx).1
      have c1 := ((unhide HBel).cell (p := ⟨b, off + k * 2 + 1, none⟩) hbB).trans (hr k _ hx).2
      simp only at c0 c1
      have HX := hide hx
      have HST : Hid ((es.take (k + 1)).flatMap itL = (es.take k).flatMap itL ++ itL (key, val)) := take_flat itL hx
      have HSZ := hide (size_take itL hx)
      have hle := take_flat_le itL es (k + 1)
      rw [unhide HST, List.length_append] at hle
      clear hx hr HR
      have HC := hide (fun W hW => item_any B r k ((es.take k).flatMap itL) (key, val) W hW (by omega) (by omega))
      rw [unhide HSZ] at HC
      have HWA := hide ((unhide HW).below (below_alloc wr (.cells #[.string key, .string val] 47)))
      have HPA := hide ((unhide HBel).alloc (by have := (unhide HW).lt; have := (unhide HW).1; omega) (.cells #[.string key, .string val] 47))
      clear hle
      by_cases hbig : 1007 < Cut.size itL (es.take k ++ [(key, val)])
      · have HE := hide ((unhide HFT).stop (unhide HX) hbig)
        generalize Cut.size itL (es.take k ++ [(key, val)]) = Z at *
        have hb' : (1007 : Int) < (Z : Int) := by omega
        clear hbig
        go_wp2_with (go_at_call 38; refine (unhide HC _ (unhide HWA)).mono ?_; rintro e w3 ⟨rfl, hw3, hp3⟩; have HP3 := hide ((unhide HPA).trans hp3.1); clear hw3 hp3)
        go_ret
        exact ⟨ret_int (by rw [unhide HE]), unhide HP3⟩
      · have HN := hide ((unhide HFT).next (unhide HX) hbig)
        generalize Cut.size itL (es.take k ++ [(key, val)]) = Z at *
        have hb' : ¬ (1007 : Int) < (Z : Int) := by omega
        clear hbig
        go_wp2_with (go_at_call 38; refine (unhide HC _ (unhide HWA)).mono ?_; rintro e w3 ⟨rfl, hw3, hp3⟩; have HW3 := hide hw3; have HP3 := hide ((unhide HPA).trans hp3.1); clear hw3 hp3)
        go_roundw
        case rel =>
          refine ⟨k + 1, by omega, by go_num, unhide HN, ?_, unhide HP3⟩
          rw [unhide HST]
          exact unhide HW3
        case measure => simp [intOf]; omega
    · obtain rfl : k = es.length := by omega
      have HE := hide (unhide HFT).done
      go_wp2
      go_ret
      exact ⟨ret_int (by rw [unhide HE]), unhide HBel⟩

set_option maxRecDepth 10000 in
set_option maxHeartbeats 2000000 in
theorem fittingK_any (B r : Nat) (a : Option Addr) (cap : Nat) (es : List Kd) (w : World) (h : Wr B w r 0 []) (hrow : Row kv w a es) (hlow : ∀ k, k < w.heap.size → k ≠ r → k < B) (hv : ∀ x ∈ es, 0 ≤ x.2 ∧ x.2 < 9223372036854775808) (hn : es.length ≤ 900000) (hl : (es.flatMap kdL).length ≤ 900000) :
    Calls Try.prog 40 #[.slice a es.length cap, .func (.func 41) #[.pointer (some ⟨r, 0, none⟩)] #[]] w fun e w' => e = .returned (.int .i64 (Cut.fit kdL [] es : Int)) ∧ Below B w w' := by
  have HR := hide hrow
  have HW0 := hide h
  have HLOW := hide hlow
  clear hrow h hlow
  go_enter Try.func40, Try.ntmps40
  go_wp2
  go_loopw [9] (fun t wr => ∃ k : Nat, k ≤ es.length ∧ t = .int .i64 k ∧ Fitto kdL es k ∧ Wr B wr r k ((es.take k).flatMap kdL) ∧ Below B w wr) (fun t _ => es.length - (intOf t).toNat)
  case atStart => exact ⟨0, Nat.zero_le _, rfl, Fitto.start _ _, unhide HW0, Below.refl _ _⟩
  case round =>
    obtain ⟨k, hk, rfl, hft, hw, hbel⟩ := hrel
    have HW := hide hw
    have HBel := hide hbel
    have HFT := hide hft
    clear hw hbel hft
    by_cases hlt : k < es.length
    · obtain ⟨b, off, rfl, hr⟩ := (unhide HR).at hlt
      obtain ⟨⟨key, val⟩, hx⟩ := get_some hlt
      have hbB : b < B := by
        have h1 := (hr k _ hx).1
        refine unhide HLOW b (World.block_lt_of_cell? _ _ h1) (fun e => ?_)
        subst e
        obtain ⟨_, v, hb, ho⟩ := unhide HW0
        obtain ⟨a, cap, e⟩ := ho.shape
        exact row_not_writer hb ⟨_, _, _, e⟩ (hr k _ hx).1
      have c0 := ((unhide HBel).cell (p := ⟨b, off + k * 2, none⟩) hbB).trans (hr k _ hx).1
      have c1 := ((unhide HBel).cell (p := ⟨b, off + k * 2 + 1, none⟩) hbB).trans (hr k _ hx).2
      simp only at c0 c1
      have HX := hide hx
      have HST : Hid ((es.take (k + 1)).flatMap kdL = (es.take k).flatMap kdL ++ kdL (key, val)) := take_flat kdL hx
      have HSZ := hide (size_take kdL hx)
      have hle := take_flat_le kdL es (k + 1)
      rw [unhide HST, List.length_append] at hle
      clear hx hr HR
      have HC := hide (fun W hW => kid_any B r k ((es.take k).flatMap kdL) (key, val) W hW (hv _ (List.mem_of_getElem? (unhide HX))) (by omega) (by omega))
      rw [unhide HSZ] at HC
      have HWA := hide ((unhide HW).below (below_alloc wr (.cells #[.string key, .int .i64 val] 49)))
      have HPA := hide ((unhide HBel).alloc (by have := (unhide HW).lt; have := (unhide HW).1; omega) (.cells #[.string key, .int .i64 val] 49))
      clear hle
      by_cases hbig : 1007 < Cut.size kdL (es.take k ++ [(key, val)])
      · have HE := hide ((unhide HFT).stop (unhide HX) hbig)
        generalize Cut.size kdL (es.take k ++ [(key, val)]) = Z at *
        have hb' : (1007 : Int) < (Z : Int) := by omega
        clear hbig
        go_wp2_with (go_at_call 41; refine (unhide HC _ (unhide HWA)).mono ?_; rintro e w3 ⟨rfl, hw3, hp3⟩; have HP3 := hide ((unhide HPA).trans hp3.1); clear hw3 hp3)
        go_ret
        exact ⟨ret_int (by rw [unhide HE]), unhide HP3⟩
      · have HN := hide ((unhide HFT).next (unhide HX) hbig)
        generalize Cut.size kdL (es.take k ++ [(key, val)]) = Z at *
        have hb' : ¬ (1007 : Int) < (Z : Int) := by omega
        clear hbig
        go_wp2_with (go_at_call 41; refine (unhide HC _ (unhide HWA)).mono ?_; rintro e w3 ⟨rfl, hw3, hp3⟩; have HW3 := hide hw3; have HP3 := hide ((unhide HPA).trans hp3.1); clear hw3 hp3)
        go_roundw
        case rel =>
          refine ⟨k + 1, by omega, by go_num, unhide HN, ?_, unhide HP3⟩
          rw [unhide HST]
          exact unhide HW3
        case measure => simp [intOf]; omega
    · obtain rfl : k = es.length := by omega
      have HE := hide (unhide HFT).done
      go_wp2
      go_ret
      exact ⟨ret_int (by rw [unhide HE]), unhide HBel⟩
end Go.Proofs.Ytepkifledonldaa
