/- The document's put. -/
import Derived.Test.YtmpgaecnibakdaaDoorDr
namespace Go.Proofs.YtmpgaecnibakdaaDoor
open Go.ChangeShapes Go.WideShapes Go.ChangeAt Go.RowKit
attribute [local go_sem] Oper.semAt_some

theorem hide_eq (p : Prop) : Hid p = p := rfl
theorem tw_at {α : Type} {f : α → Bool} : ∀ {m : Nat} {l : List α}, m ≤ l.length → (∀ k x, k < m → l[k]? = some x → f x = true) → (∀ x, l[m]? = some x → f x = false) → l.takeWhile f = l.take m ∧ l.dropWhile f = l.drop m
  | 0, [], _, _, _ => ⟨rfl, rfl⟩
  | 0, x :: l, _, _, h => by
    have := h x rfl
    simp [this]
  | m + 1, [], h, _, _ => absurd h (by simp)
  | m + 1, x :: l, hm, h, h2 => by
    have hx := h 0 x (by omega) rfl
    have := tw_at (f := f) (m := m) (l := l) (by simpa using hm) (fun k y hk hy => h (k + 1) y (by omega) (by simpa using hy)) (fun y hy => h2 y (by simpa using hy))
    simp [hx, this.1, this.2]

set_option maxHeartbeats 4000000 in
set_option maxRecDepth 10000 in
theorem put_any (a : Option Addr) (cap : Nat) (l : List Pc) (ix : Int) (da : List UInt8) (w : World) (hr : Ps w a l) (hl : l.length ≤ 10000) :
    Calls Tryd.prog 33 #[.slice a l.length cap, .agg #[.int .i64 ix, .string (tx da)]] w fun e w' => ∃ a' cap', e = .returned (.slice a' (putR l (ix, da)).length cap') ∧ OwnP w.heap.size w' (.slice a' (putR l (ix, da)).length cap') (putR l (ix, da)) ∧ Below w.heap.size w w' := by
  have b1 := b_alloc w (.cells #[.int .i64 ix, .string (tx da)] 58)
  have n1 := heap_alloc_new w (.cells #[.int .i64 ix, .string (tx da)] 58)
  have d0 : (w.alloc (.cells #[.int .i64 ix, .string (tx da)] 58)).cell? ⟨w.heap.size, 0, none⟩ = some (.int .i64 ix) := (cell_of_row _ _ 0 _ _ _ n1).trans rfl
  have d1 : (w.alloc (.cells #[.int .i64 ix, .string (tx da)] 58)).cell? ⟨w.heap.size, 1, none⟩ = some (.string (tx da)) := (cell_of_row _ _ 1 _ _ _ n1).trans rfl
  have HR := hide (hr.below b1)
  have HW0 := hide b1
  have HWW := hide b1.size
  clear hr n1 b1
  go_enter Tryd.func33, Tryd.ntmps33
  go_wp2
  generalize hW : w.alloc (.cells #[.int .i64 ix, .string (tx da)] 58) = w0 at *
  obtain ⟨q, hq⟩ : ∃ q, q = w.heap.size := ⟨_, rfl⟩
  rw [← hq] at d0 d1 ⊢
  rw [← hq] at HWW HW0
  have HQ := hide hq
  clear hq hW
  go_loopw [5, 6] (fun r s wr => ∃ i : Nat, i ≤ l.length ∧ s = .int .i64 i ∧ OwnP w0.heap.size wr r (l.take i) ∧ (∀ k x, k < i → l[k]? = some x → x.1 < ix) ∧ Below w0.heap.size w0 wr) (fun _ s _ => l.length - (intOf s).toNat)
  case atStart => exact ⟨0, Nat.zero_le _, rfl, OwnP.nil _ _, fun k x hk => by omega, Below.refl _ _⟩
  case round =>
    obtain ⟨i, hi, rfl, ho, hall, hb⟩ := hrel
    have HOB := hide ho
    have HBB := hide hb
    by_cases hlt : i < l.length
    · obtain ⟨⟨iy, db⟩, hx⟩ := get_some hlt
      obtain ⟨b, off, rfl, c0, c1, c2⟩ := ((unhide HR).below hb).get hx
      have hlt' : (i : Int) < (l.length : Int) := by omega
      have f0 := cell_keep d0 hb
      have f1 := cell_keep d1 hb
      by_cases he : iy < ix
      · have HNX := hide (take_snoc hx)
        have HALL : Hid (∀ k x, k < i + 1 → l[k]? = some x → x.1 < ix) := by
          intro k x hk hkx
          by_cases hki : k < i
          · exact hall k x hki hkx
          · obtain rfl : k = i := by omega
            rw [hx] at hkx
            cases hkx
            exact he
        have HKL : Hid ((l.take i).length ≤ 10000) := by rw [hide_eq, List.length_take]; omega
        generalize l.take i = R at *
        obtain ⟨a1, cap1, rfl⟩ := ho.form
        clear ho hb hall hx
        go_wp2
        go_quiet (fail)
        have HOC := hide ((unhide HOB).below (b_drewN wr nq))
        have HBC := hide (below_then (unhide HBB) (b_drewN wr nq))
        have v0 := cell_keep c0 (b_drewN wr nq)
        have v1 := cell_keep c1 (b_drewN wr nq)
        have v2 := cell_keep c2 (b_drewN wr nq)
        generalize wr.drewN nq = w3 at *
        have hs3 := (unhide HBC).size
        clear c0 c1 c2 f0 f1 HOB HBB
        go_wp2_with (at_builtin; refine app_pc iy db rfl _ _ rfl rfl rfl hs3 (unhide HOC) (by have := unhide HKL; omega) ?_; intro a' cap' w' ho' hb'; have HO9 := hide ho'; have HB9 := hide ((unhide HBC).trans hb'); clear ho' hb')
        go_roundw
        case rel => exact ⟨i + 1, by omega, by go_num, by rw [unhide HNX]; exact unhide HO9, unhide HALL, unhide HB9⟩
        case measure => simp [intOf] <;> omega
      · have hstop : ∀ x, l[i]? = some x → ¬ x.1 < ix := fun x h => by
          rw [hx] at h
          cases h
          exact he
        have he' : decide (iy < ix) = false := decide_eq_false he
        have HST := hide hstop
        have HALL := hide hall
        clear ho hb hall hx hstop
        go_wp2
        go_quiet (fail)
        have HO2 := hide ((unhide HOB).below (b_drewN wr nq))
        have HB2 := hide (below_then (unhide HBB) (b_drewN wr nq))
        generalize wr.drewN nq = w3 at *
        have hb := unhide HB2
        have ho := unhide HO2
        have hall := unhide HALL
        have hstop := unhide HST
        clear c0 c1 c2 f0 f1 HOB HBB HALL HST he'
        have htw := tw_at (f := fun q : Pc => decide (q.1 < ix)) hi (fun k x hk hx => decide_eq_true (hall k x hk hx)) (fun x hx => decide_eq_false (by have := hstop x hx; omega))
        have HTW := hide htw
        have HML := hide hi
        have e0 := cell_keep d0 (unhide HB2)
        have e1 := cell_keep d1 (unhide HB2)
        have HKL : Hid ((l.take i).length ≤ 10000) := by rw [hide_eq, List.length_take]; omega
        have hs2 := (unhide HB2).size
        clear htw hall hstop hb ho
        obtain ⟨R, hR⟩ : ∃ R, R = l.take i := ⟨_, rfl⟩
        have HRR := hide hR
        rw [← hR] at HKL HO2
        clear hR
        obtain ⟨a0, cap0, rfl⟩ := (unhide HO2).form
        go_wp2_with (at_builtin; refine app_pc ix da rfl _ _ rfl rfl rfl hs2 (unhide HO2) (by have := unhide HKL; omega) ?_; intro a' cap' w' ho' hb'; have HO9 := hide ho'; have HB9 := hide ((unhide HB2).trans hb'); clear ho' hb')
        clear hi e0 e1 hs2
        go_loopw [5, 6] (fun r s wr => ∃ j : Nat, i ≤ j ∧ j ≤ l.length ∧ s = .int .i64 j ∧ OwnP w0.heap.size wr r (l.take i ++ [(ix, da)] ++ ((l.drop i).take (j - i)).filter fun q => decide (q.1 ≠ ix)) ∧ Below w0.heap.size w0 wr) (fun _ s _ => l.length - (intOf s).toNat)
        case atStart => exact ⟨i, Nat.le_refl _, unhide HML, rfl, by rw [Nat.sub_self, List.take_zero, List.filter_nil, List.append_nil, ← unhide HRR]; exact unhide HO9, unhide HB9⟩
        case round =>
          obtain ⟨j, hij, hj, rfl, ho, hb⟩ := hrel
          by_cases hlt : j < l.length
          · obtain ⟨⟨iy, db⟩, hx⟩ := get_some hlt
            obtain ⟨b, off, hae, c0, c1, c2⟩ := ((unhide HR).below hb).get hx
            cases hae
            have hlt' : (j : Int) < (l.length : Int) := by omega
            have f0 := cell_keep d0 hb
            have f1 := cell_keep d1 hb
            have hdx : (l.drop i).take (j + 1 - i) = (l.drop i).take (j - i) ++ [(iy, db)] := by
              rw [show j + 1 - i = (j - i) + 1 by omega]
              exact take_snoc (by rw [List.getElem?_drop, show i + (j - i) = j by omega]; exact hx)
            have HOB := hide ho
            have HBB := hide hb
            by_cases he : iy = ix
            · have HNX : Hid (l.take i ++ [(ix, da)] ++ ((l.drop i).take (j + 1 - i)).filter (fun q => decide (q.1 ≠ ix)) = l.take i ++ [(ix, da)] ++ ((l.drop i).take (j - i)).filter (fun q => decide (q.1 ≠ ix))) := by
                show _ = _
                rw [hdx, List.filter_append, List.filter_cons_of_neg (by simpa using he), List.filter_nil, List.append_nil]
              clear hx hdx ho hb HO9 HB9
              subst he
              go_wp2
              go_quiet (fail)
              go_wp2
              go_roundw
              case rel => exact ⟨j + 1, by omega, by omega, by go_num, by rw [unhide HNX]; exact (unhide HOB).below (b_drewN _ _), below_then (unhide HBB) (b_drewN _ _)⟩
              case measure => simp [intOf] <;> omega
            · have HNX : Hid (l.take i ++ [(ix, da)] ++ ((l.drop i).take (j + 1 - i)).filter (fun q => decide (q.1 ≠ ix)) = l.take i ++ [(ix, da)] ++ ((l.drop i).take (j - i)).filter (fun q => decide (q.1 ≠ ix)) ++ [(iy, db)]) := by
                show _ = _
                rw [hdx, List.filter_append, List.filter_cons_of_pos (by simpa using he), List.filter_nil, List.append_assoc (l.take i ++ [(ix, da)])]
              have HKL2 : Hid ((l.take i ++ [(ix, da)] ++ ((l.drop i).take (j - i)).filter fun q => decide (q.1 ≠ ix)).length ≤ 30000) := by
                rw [hide_eq, List.length_append, List.length_append, List.length_take]
                have := List.length_filter_le (fun q : Pc => decide (q.1 ≠ ix)) ((l.drop i).take (j - i))
                rw [List.length_take, List.length_drop] at this
                simp only [List.length_cons, List.length_nil]
                omega
              generalize (l.take i ++ [(ix, da)] ++ ((l.drop i).take (j - i)).filter fun q => decide (q.1 ≠ ix)) = R at *
              clear hx hdx ho hb HO9 HB9
              obtain ⟨a1, cap1, rfl⟩ := (unhide HOB).form
              go_wp2
              go_quiet (fail)
              have HOC := hide ((unhide HOB).below (b_drewN wr nq))
              have HBC := hide (below_then (unhide HBB) (b_drewN wr nq))
              have v0 := cell_keep c0 (b_drewN wr nq)
              have v1 := cell_keep c1 (b_drewN wr nq)
              have v2 := cell_keep c2 (b_drewN wr nq)
              generalize wr.drewN nq = w3 at *
              have hs3 := (unhide HBC).size
              clear c0 c1 c2 f0 f1 HOB HBB
              go_wp2_with (at_builtin; refine app_pc iy db rfl _ _ rfl rfl rfl hs3 (unhide HOC) (by have := unhide HKL2; omega) ?_; intro a' cap' w' ho' hb'; have HO9 := hide ho'; have HB9 := hide ((unhide HBC).trans hb'); clear ho' hb')
              go_roundw
              case rel => exact ⟨j + 1, by omega, by omega, by go_num, by rw [unhide HNX]; exact unhide HO9, unhide HB9⟩
              case measure => simp [intOf] <;> omega
          · have hlt' : ¬ (j : Int) < (l.length : Int) := by omega
            obtain rfl : j = l.length := by omega
            have HE : Hid (putR l (ix, da) = l.take i ++ [(ix, da)] ++ ((l.drop i).take (l.length - i)).filter fun q => decide (q.1 ≠ ix)) := by
              show _ = _
              unfold putR
              rw [(unhide HTW).1, (unhide HTW).2, show (l.drop i).take (l.length - i) = l.drop i from List.take_of_length_le (by rw [List.length_drop]; omega)]
            rw [← unhide HE] at ho
            obtain ⟨PR, hPR⟩ : ∃ PR, PR = putR l (ix, da) := ⟨_, rfl⟩
            rw [← hPR] at ho
            have HPR := hide hPR
            clear hPR
            have HOB := hide ho
            have HBB := hide hb
            obtain ⟨a1, cap1, rfl⟩ := ho.form
            clear ho hb HO9 HB9 HE
            go_wp2
            go_ret
            have h1 := unhide HWW
            have h2 := unhide HW0
            rw [unhide HQ] at h1 h2
            rw [← unhide HPR]
            exact ⟨_, _, rfl, (unhide HOB).base h1, below_then h2 (unhide HBB)⟩
    · have hlt' : ¬ (i : Int) < (l.length : Int) := by omega
      have hlt2 : decide ((i : Int) < (l.length : Int)) = false := decide_eq_false hlt'
      have hstop : ∀ x, l[i]? = some x → ¬ x.1 < ix := fun x h => by
        rw [List.getElem?_eq_none (by omega)] at h
        cases h
      have f0 := cell_keep d0 hb
      have f1 := cell_keep d1 hb
      have HST := hide hstop
      have HALL := hide hall
      clear ho hb hall hstop
      go_wp2
      go_quiet (fail)
      have HO2 := hide ((unhide HOB).below (b_drewN wr nq))
      have HB2 := hide (below_then (unhide HBB) (b_drewN wr nq))
      generalize wr.drewN nq = w3 at *
      have hb := unhide HB2
      have ho := unhide HO2
      have hall := unhide HALL
      have hstop := unhide HST
      clear f0 f1 HOB HBB HALL HST hlt2
      have htw := tw_at (f := fun q : Pc => decide (q.1 < ix)) hi (fun k x hk hx => decide_eq_true (hall k x hk hx)) (fun x hx => decide_eq_false (by have := hstop x hx; omega))
      have HTW := hide htw
      have HML := hide hi
      have e0 := cell_keep d0 (unhide HB2)
      have e1 := cell_keep d1 (unhide HB2)
      have HKL : Hid ((l.take i).length ≤ 10000) := by rw [hide_eq, List.length_take]; omega
      have hs2 := (unhide HB2).size
      clear htw hall hstop hb ho
      obtain ⟨R, hR⟩ : ∃ R, R = l.take i := ⟨_, rfl⟩
      have HRR := hide hR
      rw [← hR] at HKL HO2
      clear hR
      obtain ⟨a0, cap0, rfl⟩ := (unhide HO2).form
      go_wp2_with (at_builtin; refine app_pc ix da rfl _ _ rfl rfl rfl hs2 (unhide HO2) (by have := unhide HKL; omega) ?_; intro a' cap' w' ho' hb'; have HO9 := hide ho'; have HB9 := hide ((unhide HB2).trans hb'); clear ho' hb')
      clear hi e0 e1 hs2
      go_loopw [5, 6] (fun r s wr => ∃ j : Nat, i ≤ j ∧ j ≤ l.length ∧ s = .int .i64 j ∧ OwnP w0.heap.size wr r (l.take i ++ [(ix, da)] ++ ((l.drop i).take (j - i)).filter fun q => decide (q.1 ≠ ix)) ∧ Below w0.heap.size w0 wr) (fun _ s _ => l.length - (intOf s).toNat)
      case atStart => exact ⟨i, Nat.le_refl _, unhide HML, rfl, by rw [Nat.sub_self, List.take_zero, List.filter_nil, List.append_nil, ← unhide HRR]; exact unhide HO9, unhide HB9⟩
      case round =>
        obtain ⟨j, hij, hj, rfl, ho, hb⟩ := hrel
        by_cases hlt : j < l.length
        · exfalso
          omega
        · have hlt' : ¬ (j : Int) < (l.length : Int) := by omega
          obtain rfl : j = l.length := by omega
          have HE : Hid (putR l (ix, da) = l.take i ++ [(ix, da)] ++ ((l.drop i).take (l.length - i)).filter fun q => decide (q.1 ≠ ix)) := by
            show _ = _
            unfold putR
            rw [(unhide HTW).1, (unhide HTW).2, show (l.drop i).take (l.length - i) = l.drop i from List.take_of_length_le (by rw [List.length_drop]; omega)]
          rw [← unhide HE] at ho
          obtain ⟨PR, hPR⟩ : ∃ PR, PR = putR l (ix, da) := ⟨_, rfl⟩
          rw [← hPR] at ho
          have HPR := hide hPR
          clear hPR
          have HOB := hide ho
          have HBB := hide hb
          obtain ⟨a1, cap1, rfl⟩ := ho.form
          clear ho hb HO9 HB9 HE
          go_wp2
          go_ret
          have h1 := unhide HWW
          have h2 := unhide HW0
          rw [unhide HQ] at h1 h2
          rw [← unhide HPR]
          exact ⟨_, _, rfl, (unhide HOB).base h1, below_then h2 (unhide HBB)⟩
end Go.Proofs.YtmpgaecnibakdaaDoor
