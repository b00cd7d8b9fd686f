/- The document's Ranges. -/
import Derived.Test.YtmpgaecnibakdaaDoorRn
namespace Go.Proofs.YtmpgaecnibakdaaDoor
open Go.ChangeShapes Go.WideShapes Go.ChangeAt Go.RowKit
attribute [local go_sem] Oper.semAt_some

theorem Right.firsts {l : List Pc} {size : Int} (h : Right l size) (k : Nat) : Right (l.take k) size := ⟨h.lo, h.hi, fun p hp => h.ok p (List.mem_of_mem_take hp), h.so.sub (List.take_sublist _ _)⟩
theorem rngR_one {l : List Pc} {q : Pc} {size : Int} (R : List Rg) (h : R = rngR (l ++ [q]) size) : ∃ R0 x, R = R0 ++ [(x, min (q.1 * 64 + 64) size)] := by
  have hl := rng_last l q size
  rw [← h] at hl
  unfold lastTo at hl
  cases hg : R.getLast? with
  | none => rw [hg] at hl; cases hl
  | some x =>
    obtain ⟨R0, hR⟩ := List.getLast?_eq_some_iff.1 hg
    rw [hg] at hl
    refine ⟨R0, x.1, ?_⟩
    rw [hR]
    have : x.2 = min (q.1 * 64 + 64) size := by simpa using hl
    rw [← this]

set_option maxHeartbeats 8000000 in
set_option maxRecDepth 10000 in
theorem rangesD_any (a : Option Addr) (cap : Nat) (l : List Pc) (size : Int) (w : World) (hr : Ps w a l) (hl : l.length ≤ 9000) (hd : ∀ p ∈ l, p.2.length ≤ 10000) :
    Calls Tryd.prog 24 #[.slice a l.length cap, .int .i64 size] w fun e w' => AnsR w.heap.size (rngA l size) e w' ∧ Below w.heap.size w w' := by
  have HC := hide (chkD_any a cap l size w hr (by omega) (fun p hp => by have := hd p hp; omega))
  by_cases hc : chkR l size = 0
  case neg =>
    rw [rngA_form hc]
    have h21 : chkR l size = 21 := (chk_two l size).resolve_left hc
    rw [h21] at HC
    clear hr hc h21
    go_enter Tryd.func24, Tryd.ntmps24
    go_wp2_with fail
    refine (unhide HC).mono ?_
    rintro e w1 ⟨rfl, hb1⟩
    have HB1 := hide hb1
    clear hb1 HC
    go_wp2
    go_ret2
    exact ⟨⟨_, rfl, OwnR.nil _ _⟩, unhide HB1⟩
  have hri := right_chk hc
  rw [hc] at HC
  rw [rngA_ok hc]
  have s1 := hri.hi
  have HRI := hide hri
  have HR := hide (fun W (hW : Below w.heap.size w W) => hr.below hW)
  obtain ⟨LR, hLR⟩ : ∃ LR, LR = rngR l size := ⟨_, rfl⟩
  have HLR := hide hLR
  rw [← hLR]
  clear hri hc hr hLR
  go_enter Tryd.func24, Tryd.ntmps24
  go_wp2_with fail
  refine (unhide HC).mono ?_
  rintro e w1 ⟨rfl, hb1⟩
  have HB1 := hide hb1
  clear hb1 HC
  go_wp2
  go_loopw [7, 8] (fun r s wr => ∃ k : Nat, k ≤ l.length ∧ s = .int .i64 k ∧ OwnR w.heap.size wr r (rngR (l.take k) size) ∧ Below w.heap.size w wr) (fun _ s _ => l.length - (intOf s).toNat)
  case atStart => exact ⟨0, Nat.zero_le _, rfl, OwnR.nil _ _, unhide HB1⟩
  case round =>
    obtain ⟨k, hk, rfl, ho, hb⟩ := hrel
    have HO := hide ho
    have HB := hide hb
    by_cases hlt : k < l.length
    · obtain ⟨⟨ix, da⟩, hx⟩ := get_some hlt
      obtain ⟨b, om, rfl, c0, c1, c2⟩ := (unhide HR _ hb).get hx
      have hlt' : (k : Int) < (l.length : Int) := by omega
      obtain ⟨o1, o2, o3, o4⟩ := (unhide HRI).ok _ (List.mem_of_getElem? hx)
      simp only at o1 o2 o3
      have hts := take_snoc hx
      have hsn := rng_snoc (l.take k) (ix, da) size
      rw [← hts] at hsn
      have hln := rngR_len (l.take k) size
      rw [List.length_take] at hln
      have HLT := hide hlt
      have HPS := hide (unhide HR _ hb)
      have y0 : 0 ≤ ix * 64 := by omega
      have y1 : ix * 64 ≤ 4611686018427387904 := by omega
      have z0 : -9223372036854775808 ≤ size - ix * 64 := by omega
      have z1 : size - ix * 64 ≤ 9223372036854775807 := by omega
      have HRK := hide ((unhide HRI).firsts (k + 1))
      rw [hts] at HRK
      clear hx ho hb o4 HB1 hts
      have hto : (64 < size - ix * 64 ∧ min (ix * 64 + 64) size = ix * 64 + 64) ∨ (¬ 64 < size - ix * 64 ∧ min (ix * 64 + 64) size = size) := by omega
      cases k with
      | zero =>
        rw [show rngR (l.take 0) size = [] from rfl] at hsn HO
        rw [rngStep_nil] at hsn
        have v0 := c0
        have v1 := c2
        simp only [Nat.zero_mul, Nat.add_zero] at v0 v1
        have HPZ : Hid (0 < l.length) := by rw [hide_eq]; omega
        clear hln HRK HPS hlt c0 c1 c2
        obtain ⟨a0, cap0, rfl⟩ := (unhide HO).form
        rcases hto with ⟨g1, hμ⟩ | ⟨g1, hμ⟩
        · rw [hμ] at hsn
          have HSN := hide hsn
          clear hsn hμ
          go_wp2
          go_quiet (fail)
          have HB6 := hide (below_then (unhide HB) (b_drewN wr nq))
          have HO6 := hide ((unhide HO).below (b_drewN wr nq))
          have hs6 := (unhide HB6).size
          clear HB HO
          generalize wr.drewN nq = w6 at *
          go_wp2_with (at_builtin; refine app_rg (ix * 64) (ix * 64 + 64) rfl _ _ rfl rfl rfl hs6 (unhide HO6) (by simp) ?_; intro a' cap' w' ho' hb'; have HO9 := hide ho'; have HB9 := hide ((unhide HB6).trans hb'); clear ho' hb')
          go_roundw
          case rel => exact ⟨0 + 1, by have := unhide HLT; omega, by go_num, by rw [unhide HSN]; exact unhide HO9, unhide HB9⟩
          case measure => have := unhide HLT; simp [intOf] <;> omega
        · rw [hμ] at hsn
          have HSN := hide hsn
          clear hsn hμ
          go_wp2
          go_quiet (fail)
          have HB6 := hide (below_then (unhide HB) (b_drewN wr nq))
          have HO6 := hide ((unhide HO).below (b_drewN wr nq))
          have hs6 := (unhide HB6).size
          clear HB HO
          generalize wr.drewN nq = w6 at *
          go_wp2_with (at_builtin; refine app_rg (ix * 64) size rfl _ _ rfl rfl rfl hs6 (unhide HO6) (by simp) ?_; intro a' cap' w' ho' hb'; have HO9 := hide ho'; have HB9 := hide ((unhide HB6).trans hb'); clear ho' hb')
          go_roundw
          case rel => exact ⟨0 + 1, by have := unhide HLT; omega, by go_num, by rw [unhide HSN]; exact unhide HO9, unhide HB9⟩
          case measure => have := unhide HLT; simp [intOf] <;> omega
      | succ j =>
        have hjl' : j < l.length := by omega
        obtain ⟨⟨iy, dy⟩, hy⟩ := get_some hjl'
        have hjl : (j : Int) < (l.length : Int) := by omega
        have hj0 : (0 : Int) < (j : Int) + 1 := by omega
        have hj00 : (0 : Int) ≤ (j : Int) := by omega
        obtain ⟨b', om', he, x0, x1, x2⟩ := (unhide HPS).get hy
        injection he with he
        injection he with he1 he2
        subst he1 he2
        obtain ⟨p1, p2, p3, p4⟩ := (unhide HRI).ok _ (List.mem_of_getElem? hy)
        simp only at p1 p2 p3
        have hty := take_snoc hy
        rw [hty] at HRK
        have hjo := rng_joins (unhide HRK)
        simp only at hjo
        obtain ⟨R, hR⟩ : ∃ R, R = rngR (l.take (j + 1)) size := ⟨_, rfl⟩
        rw [← hR] at HO hsn hln
        rw [hty] at hR
        rw [← hR] at hjo
        obtain ⟨R0, x, rfl⟩ := rngR_one R hR
        simp only at HO hsn hln hjo
        obtain ⟨y, hyy⟩ : ∃ y, y = min (iy * 64 + 64) size := ⟨_, rfl⟩
        rw [← hyy] at HO hsn hln hjo
        have hjo2 : y = ix * 64 ↔ iy + 1 = ix := by
          rw [← hjo]
          simp [lastTo]
        clear hjo hR hyy HRK HPS hy hty p3 p4 x1 x2
        have q0 : iy ≤ 72057594037927936 := by omega
        obtain ⟨m, hm0⟩ : ∃ m, R0.length = m := ⟨_, rfl⟩
        have hm : (R0 ++ [(x, y)]).length = m + 1 := by rw [List.length_append, hm0]; rfl
        have hmb : m ≤ 9000 := by rw [hm] at hln; omega
        obtain ⟨g, cp, hv, hBg⟩ := own_blockR (unhide HO) (by omega)
        subst hv
        by_cases hj : iy + 1 = ix
        · have hyx := hjo2.2 hj
          subst hyx
          have hE1 : (iy + 1 == ix) = true := beq_iff_eq.2 hj
          rw [rngStep_join (p := (ix, da))] at hsn
          have CF : Hid (∀ W : World, OwnR w.heap.size W (.slice (some ⟨g, 0, none⟩) (m + 1) cp) (R0 ++ [(x, ix * 64)]) → W.cell? ⟨g, m * 2 + 1, none⟩ = some (.int .i64 (ix * 64)) ∧ W.frozen? ⟨g, m * 2 + 1, none⟩ = false) := fun W h => by
            obtain ⟨_, p1⟩ := two_get frV toV (R0 ++ [(x, ix * 64)]) m (x, ix * 64) (by rw [List.getElem?_append_right (by omega), hm0, Nat.sub_self]; rfl)
            unfold OwnR rgs at h
            rw [hm] at h
            exact ⟨(World.ownsRow.cellAt h (m * 2 + 1) (by omega)).trans p1, World.ownsRow.frozenAt h _⟩
          have HST : Hid (∀ (W : World) (μ : Int), OwnR w.heap.size W (.slice (some ⟨g, 0, none⟩) (m + 1) cp) (R0 ++ [(x, ix * 64)]) → OwnR w.heap.size (W.setCell ⟨g, m * 2 + 1, none⟩ (.int .i64 μ)) (.slice (some ⟨g, 0, none⟩) (m + 1) cp) (R0 ++ [(x, μ)])) := fun W μ h => by
            unfold OwnR rgs at h ⊢
            rw [hm] at h
            rw [List.length_append, List.length_singleton, hm0, ← two_last frV toV R0 (x, ix * 64) (x, μ) rfl, hm0]
            exact (World.ownsRow.stored h (m * 2 + 1) (.int .i64 μ)).1
          rw [hm] at HO ⊢
          have hk0 : (0 : Int) ≤ (m : Int) := by omega
          have hk1 : (m : Int) < (m : Int) + 1 := by omega
          have HBg := hide hBg
          clear hBg hm hm0 hj hjo2 hln hlt
          rcases hto with ⟨g1, hμ⟩ | ⟨g1, hμ⟩
          · rw [hμ] at hsn
            have HSN := hide hsn
            clear hsn hμ
            go_wp2
            go_quiet (fail)
            have HB6 := hide (below_then (unhide HB) (b_drewN wr nq))
            have HO6 := hide ((unhide HO).below (b_drewN wr nq))
            clear HB HO
            generalize wr.drewN nq = w6 at *
            obtain ⟨g1', g3⟩ := unhide CF _ (unhide HO6)
            have HO9 := hide (unhide HST _ (ix * 64 + 64) (unhide HO6))
            have HB9 := hide ((unhide HB6).setCell (p := ⟨g, m * 2 + 1, none⟩) (unhide HBg) (.int .i64 (ix * 64 + 64)))
            go_wp2
            go_roundw
            case rel => exact ⟨j + 1 + 1, by have := unhide HLT; omega, by go_num, by rw [unhide HSN]; exact unhide HO9, unhide HB9⟩
            case measure => have := unhide HLT; simp [intOf] <;> omega
          · rw [hμ] at hsn
            have HSN := hide hsn
            clear hsn hμ
            go_wp2
            go_quiet (fail)
            have HB6 := hide (below_then (unhide HB) (b_drewN wr nq))
            have HO6 := hide ((unhide HO).below (b_drewN wr nq))
            clear HB HO
            generalize wr.drewN nq = w6 at *
            obtain ⟨g1', g3⟩ := unhide CF _ (unhide HO6)
            have HO9 := hide (unhide HST _ size (unhide HO6))
            have HB9 := hide ((unhide HB6).setCell (p := ⟨g, m * 2 + 1, none⟩) (unhide HBg) (.int .i64 size))
            go_wp2
            go_roundw
            case rel => exact ⟨j + 1 + 1, by have := unhide HLT; omega, by go_num, by rw [unhide HSN]; exact unhide HO9, unhide HB9⟩
            case measure => have := unhide HLT; simp [intOf] <;> omega
        · have hj' : ¬ y = ix * 64 := fun h => hj (hjo2.1 h)
          have hE1 : (iy + 1 == ix) = false := beq_eq_false_iff_ne.2 hj
          rw [rngStep_more _ _ _ _ (ix, da) hj'] at hsn
          obtain ⟨R, hR⟩ : ∃ R, R = R0 ++ [(x, y)] := ⟨_, rfl⟩
          rw [← hR] at HO hsn hm ⊢
          have HMM : Hid (R.length = m + 1) := hm
          have HLN : Hid (R.length ≤ 9001) := by rw [hide_eq]; omega
          clear hBg hm hm0 hj hj' hjo2 hln hlt hR
          rw [unhide HMM] at HO ⊢
          rcases hto with ⟨g1, hμ⟩ | ⟨g1, hμ⟩
          · rw [hμ] at hsn
            have HSN := hide hsn
            clear hsn hμ
            go_wp2
            go_quiet (fail)
            have HB6 := hide (below_then (unhide HB) (b_drewN wr nq))
            have HO6 := hide ((unhide HO).below (b_drewN wr nq))
            have hs6 := (unhide HB6).size
            clear HB HO
            generalize wr.drewN nq = w6 at *
            rw [← unhide HMM] at HO6
            go_wp2_with (at_builtin; refine app_rg (ix * 64) (ix * 64 + 64) rfl _ _ rfl (by rw [← unhide HMM]; rfl) rfl hs6 (unhide HO6) (by have := unhide HLN; omega) ?_; intro a' cap' w' ho' hb'; have HO9 := hide ho'; have HB9 := hide ((unhide HB6).trans hb'); clear ho' hb')
            go_roundw
            case rel => exact ⟨j + 1 + 1, by have := unhide HLT; omega, by go_num, by rw [unhide HSN]; exact unhide HO9, unhide HB9⟩
            case measure => have := unhide HLT; simp [intOf] <;> omega
          · rw [hμ] at hsn
            have HSN := hide hsn
            clear hsn hμ
            go_wp2
            go_quiet (fail)
            have HB6 := hide (below_then (unhide HB) (b_drewN wr nq))
            have HO6 := hide ((unhide HO).below (b_drewN wr nq))
            have hs6 := (unhide HB6).size
            clear HB HO
            generalize wr.drewN nq = w6 at *
            rw [← unhide HMM] at HO6
            go_wp2_with (at_builtin; refine app_rg (ix * 64) size rfl _ _ rfl (by rw [← unhide HMM]; rfl) rfl hs6 (unhide HO6) (by have := unhide HLN; omega) ?_; intro a' cap' w' ho' hb'; have HO9 := hide ho'; have HB9 := hide ((unhide HB6).trans hb'); clear ho' hb')
            go_roundw
            case rel => exact ⟨j + 1 + 1, by have := unhide HLT; omega, by go_num, by rw [unhide HSN]; exact unhide HO9, unhide HB9⟩
            case measure => have := unhide HLT; simp [intOf] <;> omega
    · obtain rfl : k = l.length := by omega
      have hlt' : ¬ (l.length : Int) < (l.length : Int) := by omega
      rw [List.take_length, ← unhide HLR] at ho
      have HOL := hide ho
      obtain ⟨a0, cap0, rfl⟩ := (unhide HOL).form
      clear ho HO hlt hb HB1
      go_wp2
      go_ret2
      exact ⟨⟨_, rfl, unhide HOL⟩, unhide HB⟩
end Go.Proofs.YtmpgaecnibakdaaDoor
