/- The program's Punch. -/
import Derived.Test.YtmpgaecnibakdaaDoorDt
namespace Go.Proofs.YtmpgaecnibakdaaDoor
open Go.ChangeShapes Go.WideShapes Go.ChangeAt Go.RowKit
attribute [local go_sem] Oper.semAt_some

def punchA (l : List Pc) (size off n : Int) : List Pc × Int := if chkR l size ≠ 0 then ([], 21) else if off < 0 ∨ n < 0 then ([], 1) else (punR l size off n, 0)
def Ans2 (B : Nat) (x : List Pc × Int) (e : Ending) (w' : World) : Prop := ∃ v, e = .returned (.tuple #[v, .int .i64 x.2]) ∧ OwnP B w' v x.1
theorem punchA_form {l : List Pc} {size off n : Int} (h : chkR l size ≠ 0) : punchA l size off n = ([], 21) := if_pos h
theorem punchA_arg {l : List Pc} {size off n : Int} (h : chkR l size = 0) (h2 : off < 0 ∨ n < 0) : punchA l size off n = ([], 1) := by
  unfold punchA
  rw [if_neg (by omega), if_pos h2]
theorem punchA_ok {l : List Pc} {size off n : Int} (h : chkR l size = 0) (h2 : ¬ (off < 0 ∨ n < 0)) : punchA l size off n = (punR l size off n, 0) := by
  unfold punchA
  rw [if_neg (by omega), if_neg h2]
theorem punM_snoc (size f t : Int) (L : List Pc) (p : Pc) : punM size f t (L ++ [p]) = punM size f t L ++ (if wholeB size f t p = true then [] else [wipP p f t]) := by
  unfold punM
  rw [List.filterMap_append]
  congr 1
  by_cases h : wholeB size f t p = true
  · rw [if_pos h]; simp [h]
  · rw [if_neg h]; simp [h]
theorem punM_len (size f t : Int) (L : List Pc) : (punM size f t L).length ≤ L.length := List.length_filterMap_le _ _

set_option maxHeartbeats 4000000 in
set_option maxRecDepth 10000 in
theorem punch_any (a : Option Addr) (cap : Nat) (l : List Pc) (size off n : Int) (w : World) (hr : Ps w a l) (hcap : l.length ≤ cap) (hl : l.length ≤ 9000) (hd : ∀ p ∈ l, p.2.length ≤ 10000) (o1 : off ≤ 9223372036854775807) (n1 : n ≤ 9223372036854775807) :
    Calls Tryd.prog 21 #[.slice a l.length cap, .int .i64 size, .int .i64 off, .int .i64 n] w fun e w' => Ans2 w.heap.size (punchA l size off n) e w' ∧ Below w.heap.size w w' := by
  have HC := hide (chk_any a cap l size w hr (by omega) (fun p hp => by have := hd p hp; omega))
  by_cases hc : chkR l size = 0
  case neg =>
    rw [punchA_form hc]
    have h21 : chkR l size = 21 := (chk_two l size).resolve_left hc
    rw [h21] at HC
    clear hr hc h21
    go_enter Tryd.func21, Tryd.ntmps21
    go_wp2_with fail
    refine (unhide HC).mono ?_
    rintro e w1 ⟨rfl, hb1⟩
    have HB1 := hide hb1
    clear hb1 HC
    go_wp2
    go_ret2
    exact ⟨⟨_, rfl, OwnP.nil _ _⟩, unhide HB1⟩
  have hri := right_chk hc
  rw [hc] at HC
  by_cases ha : off < 0 ∨ n < 0
  · rw [punchA_arg hc ha]
    clear hri hc hr
    by_cases a1 : off < 0
    · clear ha
      go_enter Tryd.func21, Tryd.ntmps21
      go_wp2_with fail
      refine (unhide HC).mono ?_
      rintro e w1 ⟨rfl, hb1⟩
      have HB1 := hide hb1
      clear hb1 HC
      go_wp2
      go_ret2
      exact ⟨⟨_, rfl, OwnP.nil _ _⟩, unhide HB1⟩
    · have a2 : n < 0 := by omega
      clear ha
      go_enter Tryd.func21, Tryd.ntmps21
      go_wp2_with fail
      refine (unhide HC).mono ?_
      rintro e w1 ⟨rfl, hb1⟩
      have HB1 := hide hb1
      clear hb1 HC
      go_wp2
      go_ret2
      exact ⟨⟨_, rfl, OwnP.nil _ _⟩, unhide HB1⟩
  rw [punchA_ok hc ha]
  have a1 : ¬ off < 0 := by omega
  have a2 : ¬ n < 0 := by omega
  have s0 := hri.lo
  have s1 := hri.hi
  obtain ⟨f, hf⟩ : ∃ f, f = min off size := ⟨_, rfl⟩
  obtain ⟨t, ht⟩ : ∃ t, t = f + min n (size - f) := ⟨_, rfl⟩
  have f0 : 0 ≤ f := by omega
  have ft : f ≤ t := by omega
  have t1 : t ≤ 4611686018427387904 := by omega
  have HBL := hide (fun W => below_any size off n W s0 s1 (by omega) o1 (by omega) n1)
  rw [← hf, ← ht] at HBL
  have HT := hide (fun W (hW : Below w.heap.size w W) => touched_any a cap l f t W (hr.below hW) hri.so (by omega) f0 ft t1)
  obtain ⟨i, hi⟩ : ∃ i, i = cntB l (f / 64) := ⟨_, rfl⟩
  obtain ⟨j, hj⟩ : ∃ j, j = cntB l ((t + 63) / 64) := ⟨_, rfl⟩
  have hcm : i ≤ j := by rw [hi, hj]; exact cnt_mono (by omega)
  have hcj : j ≤ l.length := hj ▸ cnt_le l _
  rw [← hi, ← hj] at HT
  obtain ⟨LR, hLR⟩ : ∃ LR, LR = punR l size off n := ⟨_, rfl⟩
  obtain ⟨T, hT⟩ : ∃ T, T = l.take i := ⟨_, rfl⟩
  obtain ⟨M, hM⟩ : ∃ M, M = (l.take j).drop i := ⟨_, rfl⟩
  obtain ⟨LD, hLD⟩ : ∃ LD, LD = l.drop j := ⟨_, rfl⟩
  have HE : Hid (LR = T ++ punM size f t M ++ LD) := by
    rw [hide_eq, hLR, ← punch_eq hri (by omega) hf ht, punP, ← hi, ← hj, hT, hM, hLD]
  rw [← hLR]
  have hTl : T.length = i := by rw [hT, List.length_take]; omega
  have hDl : l.length - j = LD.length := by rw [hLD, List.length_drop]
  obtain ⟨m, hm⟩ : ∃ m, j - i = m := ⟨_, rfl⟩
  have hMl : M.length = m := by rw [hM, List.length_drop, List.length_take]; omega
  have HPM : Hid (∀ W A, A = restA a cap i → Below w.heap.size w W → Ps W A M) := fun W A hA hW => by
    rw [hM, hA]
    exact Tw.drop (Tw.take (hr.below hW) j) (by rw [List.length_take]; omega)
  have HAL1 : Hid (∀ W, Below w.heap.size w W → Calls Tryd.prog 30 #[.slice a i cap] W fun e w' => ∃ a' cap', e = .returned (.slice a' i cap') ∧ OwnP W.heap.size w' (.slice a' i cap') T ∧ Below W.heap.size W w') := fun W hW => by
    have := alike_any a cap T W (hT ▸ Tw.take (hr.below hW) i) (by omega) (fun p hp => hd p (List.mem_of_mem_take (hT ▸ hp)))
    rw [hTl] at this
    exact this
  have HAL2 : Hid (∀ W A c, A = restA a cap j → Below w.heap.size w W → Calls Tryd.prog 30 #[.slice A LD.length c] W fun e w' => ∃ a' cap', e = .returned (.slice a' LD.length cap') ∧ OwnP W.heap.size w' (.slice a' LD.length cap') LD ∧ Below W.heap.size W w') := fun W A c hA hW =>
    alike_any A c LD W (by rw [hA, hLD]; exact Tw.drop (hr.below hW) hcap) (by omega) (fun p hp => hd p (List.mem_of_mem_drop (hLD ▸ hp)))
  have HOK : Hid (∀ p ∈ M, PieceOk size p) := fun p hp => hri.ok p (List.mem_of_mem_take (List.mem_of_mem_drop (hM ▸ hp)))
  have HTl := hide hTl
  have hLDL : LD.length ≤ 9000 := by omega
  have hm9 : m ≤ 9000 := by omega
  have hi9 : i ≤ 9000 := by omega
  have hcapj : j ≤ cap := by omega
  have hic : i ≤ cap := by omega
  have HML := hide hMl
  have HS1 := hide s1
  clear hri hc hr ha hf ht hi hj hLR hT hM hLD hTl hMl
  go_enter Tryd.func21, Tryd.ntmps21
  go_wp2_with fail
  refine (unhide HC).mono ?_
  rintro e w1 ⟨rfl, hb1⟩
  have HB1 := hide hb1
  clear hb1 HC
  go_wp2_with fail
  refine (unhide HBL _).mono ?_
  rintro e w2 ⟨rfl, rfl⟩
  go_wp2_with fail
  refine (unhide HT _ (unhide HB1)).mono ?_
  rintro e w3 ⟨rfl, hb3⟩
  have HB3 := hide (below_then (unhide HB1) hb3)
  clear hb3 HB1 HT HBL
  go_wp2_with (refine slice_front rfl _ _ rfl rfl rfl hic ?_)
  refine (unhide HAL1 _ (unhide HB3)).mono ?_
  rintro e w4 ⟨a4, cap4, rfl, ho4, hb4⟩
  have HO4 := hide (ho4.base (unhide HB3).size)
  have HB4 := hide (below_then (unhide HB3) hb4)
  clear ho4 hb4 HB3 HAL1 hic
  go_wp2_with (refine slice_part rfl _ _ _ rfl rfl rfl rfl hcm hcapj hm ?_; intro A c hA hc; have HPA := hide (fun W => unhide HPM W A hA); clear hA hc)
  clear HPM hcm hcapj hm
  go_loopw [15, 54] (fun r s wr => ∃ k : Nat, k ≤ m ∧ s = .int .i64 k ∧ OwnP w.heap.size wr r (T ++ punM size f t (M.take k)) ∧ Below w.heap.size w wr) (fun _ s _ => m - (intOf s).toNat)
  case atStart => exact ⟨0, Nat.zero_le _, rfl, by rw [List.take_zero, show punM size f t [] = [] from rfl, List.append_nil]; exact unhide HO4, unhide HB4⟩
  case round =>
    obtain ⟨k, hk, rfl, ho, hb⟩ := hrel
    have HO := hide ho
    have HB := hide hb
    by_cases hlt : k < m
    · have hml := unhide HML
      obtain ⟨⟨ix, da⟩, hx⟩ := get_some (show k < M.length by omega)
      obtain ⟨b, o, hAe, c0, c1, c2⟩ := (unhide HPA _ hb).get hx
      subst hAe
      have hlt' : (k : Int) < (m : Int) := by omega
      obtain ⟨o1', o2, o3, o4⟩ := unhide HOK _ (List.mem_of_getElem? hx)
      simp only at o1' o2 o3
      have hsn := punM_snoc size f t (M.take k) (ix, da)
      rw [← take_snoc hx] at hsn
      have hln := punM_len size f t (M.take k)
      rw [List.length_take] at hln
      have HLT := hide hlt
      clear hx ho hb o4 HO4 HB4 hml
      have HMK : Hid (wipP (ix, da) f t = (ix, wipB ix da f t)) := rfl
      have b1 := b_alloc wr (.cells #[.int .i64 ix, .string (tx da)] 58)
      have n1 := heap_alloc_new wr (.cells #[.int .i64 ix, .string (tx da)] 58)
      have HB5 := hide (below_then (unhide HB) b1)
      have HO5 := hide ((unhide HO).below b1)
      generalize hW : wr.alloc (.cells #[.int .i64 ix, .string (tx da)] 58) = w5 at *
      obtain ⟨q, hq⟩ : ∃ q, q = wr.heap.size := ⟨_, rfl⟩
      have d0 : w5.cell? ⟨wr.heap.size, 0, none⟩ = some (.int .i64 ix) := (cell_of_row w5 _ 0 _ _ _ n1).trans rfl
      have d1 : w5.cell? ⟨wr.heap.size, 1, none⟩ = some (.string (tx da)) := (cell_of_row w5 _ 1 _ _ _ n1).trans rfl
      have T1 := hide (fun W => begin_any ix (tx da) W o1' (by omega))
      have HWI := hide (fun W => wiped_any ix da f t W o1' (by omega) f0 ft t1)
      have y0 : 0 ≤ ix * 64 := by omega
      have y1 : ix * 64 ≤ 4611686018427387904 := by omega
      have HLR2 : Hid ((T ++ punM size f t (M.take k)).length ≤ 20000) := by
        rw [hide_eq, List.length_append, unhide HTl]
        omega
      obtain ⟨R, hR⟩ : ∃ R, R = T ++ punM size f t (M.take k) := ⟨_, rfl⟩
      rw [← hR] at HLR2 HO5
      have HR := hide hR
      clear HO HB b1 n1 hlt hln hR
      obtain ⟨a0, cap0, rfl⟩ := (unhide HO5).form
      by_cases hfb : f ≤ ix * 64
      · obtain ⟨μ, hμ⟩ : ∃ μ, min (ix * 64 + 64) size = μ := ⟨_, rfl⟩
        have hwh : wholeB size f t (ix, da) = decide (μ ≤ t) := by
          unfold wholeB
          simp only
          rw [decide_eq_true hfb, Bool.true_and, hμ]
        by_cases hμt : μ ≤ t
        · rw [hwh, decide_eq_true hμt, if_pos rfl, List.append_nil] at hsn
          have HSN := hide hsn
          clear hsn hwh
          go_wp2_with fail
          rw [← hq] at d0 d1 ⊢
          clear hW hq
          refine (unhide T1 _).mono ?_
          rintro e w6 ⟨rfl, hb6⟩
          have e0 := cell_keep d0 hb6
          have e1 := cell_keep d1 hb6
          have HO6 := hide ((unhide HO5).below hb6)
          have HB6 := hide (below_then (unhide HB5) hb6)
          clear hb6 d0 d1 HO5 HB5
          go_wp2_with fail
          refine (unhide T1 _).mono ?_
          rintro e w7 ⟨rfl, hb7⟩
          have HO7 := hide ((unhide HO6).below hb7)
          have HB7 := hide (below_then (unhide HB6) hb7)
          clear hb7 e0 e1 HO6 HB6
          go_wp2
          go_roundw
          case rel => exact ⟨k + 1, by have := unhide HLT; omega, by go_num, by rw [unhide HSN, ← unhide HR]; exact unhide HO7, unhide HB7⟩
          case measure => have := unhide HLT; simp [intOf] <;> omega
        · have h2' : decide (μ ≤ t) = false := decide_eq_false hμt
          rw [hwh, h2', if_neg (by decide), unhide HMK] at hsn
          have HSN := hide hsn
          clear hsn hwh
          go_wp2_with fail
          rw [← hq] at d0 d1 ⊢
          clear hW hq
          refine (unhide T1 _).mono ?_
          rintro e w6 ⟨rfl, hb6⟩
          have e0 := cell_keep d0 hb6
          have e1 := cell_keep d1 hb6
          have HO6 := hide ((unhide HO5).below hb6)
          have HB6 := hide (below_then (unhide HB5) hb6)
          clear hb6 d0 d1 HO5 HB5
          go_wp2_with fail
          refine (unhide T1 _).mono ?_
          rintro e w7 ⟨rfl, hb7⟩
          have f0' := cell_keep e0 hb7
          have f1' := cell_keep e1 hb7
          have HO7 := hide ((unhide HO6).below hb7)
          have HB7 := hide (below_then (unhide HB6) hb7)
          clear hb7 e0 e1 HO6 HB6
          go_wp2_with fail
          refine (unhide HWI _).mono ?_
          rintro e w8 ⟨rfl, hb8⟩
          have HO8 := hide ((unhide HO7).below hb8)
          have HB8 := hide (below_then (unhide HB7) hb8)
          have hs8 := (unhide HB8).size
          clear hb8 f0' f1' HO7 HB7
          generalize wipB ix da f t = Y at *
          go_wp2_with (at_builtin; refine app_pc ix Y rfl _ _ rfl rfl rfl hs8 (unhide HO8) (by have := unhide HLR2; omega) ?_; intro a' cap' w' ho' hb'; have HO9 := hide ho'; have HB9 := hide ((unhide HB8).trans hb'); clear ho' hb')
          go_roundw
          case rel => exact ⟨k + 1, by have := unhide HLT; omega, by go_num, by rw [unhide HSN, ← List.append_assoc, ← unhide HR]; exact unhide HO9, unhide HB9⟩
          case measure => have := unhide HLT; simp [intOf] <;> omega
      · have hwh : wholeB size f t (ix, da) = false := by
          unfold wholeB
          simp only
          rw [decide_eq_false hfb, Bool.false_and]
        rw [hwh, if_neg (by decide), unhide HMK] at hsn
        have HSN := hide hsn
        clear hsn hwh
        go_wp2_with fail
        rw [← hq] at d0 d1 ⊢
        clear hW hq
        refine (unhide T1 _).mono ?_
        rintro e w7 ⟨rfl, hb7⟩
        have f0' := cell_keep d0 hb7
        have f1' := cell_keep d1 hb7
        have HO7 := hide ((unhide HO5).below hb7)
        have HB7 := hide (below_then (unhide HB5) hb7)
        clear hb7 d0 d1 HO5 HB5
        go_wp2_with fail
        refine (unhide HWI _).mono ?_
        rintro e w8 ⟨rfl, hb8⟩
        have HO8 := hide ((unhide HO7).below hb8)
        have HB8 := hide (below_then (unhide HB7) hb8)
        have hs8 := (unhide HB8).size
        clear hb8 f0' f1' HO7 HB7
        generalize wipB ix da f t = Y at *
        go_wp2_with (at_builtin; refine app_pc ix Y rfl _ _ rfl rfl rfl hs8 (unhide HO8) (by have := unhide HLR2; omega) ?_; intro a' cap' w' ho' hb'; have HO9 := hide ho'; have HB9 := hide ((unhide HB8).trans hb'); clear ho' hb')
        go_roundw
        case rel => exact ⟨k + 1, by have := unhide HLT; omega, by go_num, by rw [unhide HSN, ← List.append_assoc, ← unhide HR]; exact unhide HO9, unhide HB9⟩
        case measure => have := unhide HLT; simp [intOf] <;> omega
    · have hlt' : ¬ (k : Int) < (m : Int) := by omega
      obtain rfl : k = m := by omega
      have hpl := punM_len size f t (M.take k)
      rw [List.length_take] at hpl
      rw [show M.take k = M by rw [← unhide HML, List.take_length]] at HO
      have HLR2 : Hid ((T ++ punM size f t M).length ≤ 20000) := by
        have hpl := punM_len size f t M
        have := unhide HML
        rw [hide_eq, List.length_append, unhide HTl]
        omega
      obtain ⟨R, hR⟩ : ∃ R, R = T ++ punM size f t M := ⟨_, rfl⟩
      rw [← hR] at HLR2 HO HE
      clear hR ho hb hpl hlt HO4 HB4
      obtain ⟨a0, cap0, rfl⟩ := (unhide HO).form
      go_wp2_with (refine slice_rest rfl _ _ rfl rfl rfl hcj hDl ?_; intro A2 c2 hA2 hc2; have HAL3 := hide (fun W hW => unhide HAL2 W A2 c2 hA2 hW); clear hA2 hc2)
      refine (unhide HAL3 _ (unhide HB)).mono ?_
      rintro e w5 ⟨a5, cap5, rfl, ho5, hb5⟩
      have HP5 := hide (OwnP.ps ho5)
      have HO5 := hide ((unhide HO).below hb5)
      have HB5 := hide (below_then (unhide HB) hb5)
      have hs5 := (unhide HB5).size
      clear ho5 hb5 HO HB HAL3 HAL2
      go_wp2_with (at_builtin; refine app_ps rfl _ _ rfl rfl rfl (unhide HO5) (unhide HP5) (by have := unhide HLR2; omega) hs5 ?_; intro a6 cap6 w6 ho6 hg6; have HO9 := hide ho6; have HB9 := hide (own_grown (unhide HB5) (unhide HO5) hg6 hs5); clear ho6 hg6)
      go_ret2
      refine ⟨⟨_, rfl, ?_⟩, unhide HB9⟩
      show OwnP _ _ _ LR
      rw [unhide HE]
      exact unhide HO9
end Go.Proofs.YtmpgaecnibakdaaDoor
