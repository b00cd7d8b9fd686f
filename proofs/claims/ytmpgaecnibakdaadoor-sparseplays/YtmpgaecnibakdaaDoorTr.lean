/- The program's Truncate. -/
import Derived.Test.YtmpgaecnibakdaaDoorDw
namespace Go.Proofs.YtmpgaecnibakdaaDoor
open Go.ChangeShapes Go.WideShapes Go.ChangeAt Go.RowKit
attribute [local go_sem] Oper.semAt_some

def truncA (l : List Pc) (size n : Int) : List Pc × Int × Int :=
  if chkR l size ≠ 0 then ([], 0, 21) else if n < 0 then ([], 0, 1) else if 4611686018427387904 < n then ([], 0, 130) else (truncR l n, n, 0)
theorem truncA_form {l : List Pc} {size n : Int} (h : chkR l size ≠ 0) : truncA l size n = ([], 0, 21) := if_pos h
theorem truncA_arg {l : List Pc} {size n : Int} (h : chkR l size = 0) (h2 : n < 0) : truncA l size n = ([], 0, 1) := by
  unfold truncA
  rw [if_neg (by omega), if_pos h2]
theorem truncA_far {l : List Pc} {size n : Int} (h : chkR l size = 0) (h2 : ¬ n < 0) (h3 : 4611686018427387904 < n) : truncA l size n = ([], 0, 130) := by
  unfold truncA
  rw [if_neg (by omega), if_neg h2, if_pos h3]
theorem truncA_ok {l : List Pc} {size n : Int} (h : chkR l size = 0) (h2 : ¬ n < 0) (h3 : ¬ 4611686018427387904 < n) : truncA l size n = (truncR l n, n, 0) := by
  unfold truncA
  rw [if_neg (by omega), if_neg h2, if_neg h3]
theorem own_block {α : Type} {f g : α → Value} {T : TypeId} {B : Nat} {w : World} {v : Value} {l : List α} (h : w.ownsRow B T 2 v l.length (two f g l)) (hn : 0 < l.length) : ∃ b cap, v = .slice (some ⟨b, 0, none⟩) l.length cap ∧ B ≤ b := by
  rcases h.2 with ⟨_, h0⟩ | ⟨b, cap, cur, e, hB, _⟩
  · omega
  · exact ⟨b, cap, e, hB⟩

set_option maxHeartbeats 4000000 in
set_option maxRecDepth 10000 in
theorem trunc_any (a : Option Addr) (cap : Nat) (l : List Pc) (size n : Int) (w : World) (hr : Ps w a l) (hcap : l.length ≤ cap) (hl : l.length ≤ 9000) (hd : ∀ p ∈ l, p.2.length ≤ 10000) :
    Calls Tryd.prog 19 #[.slice a l.length cap, .int .i64 size, .int .i64 n] w fun e w' => Ans3 w.heap.size (truncA l size n) e w' ∧ Below w.heap.size w w' := by
  have HC := hide (chk_any a cap l size w hr (by omega) (fun p hp => by have := hd p hp; omega))
  by_cases hc : chkR l size = 0
  case neg =>
    rw [truncA_form hc]
    have h21 : chkR l size = 21 := (chk_two l size).resolve_left hc
    rw [h21] at HC
    clear hr hc h21
    go_enter Tryd.func19, Tryd.ntmps19
    go_wp2_with fail
    refine (unhide HC).mono ?_
    rintro e w1 ⟨rfl, hb1⟩
    have HB1 := hide hb1
    clear hb1 HC
    go_wp2
    go_ret3
    exact ⟨⟨_, rfl, OwnP.nil _ _⟩, unhide HB1⟩
  have hri := right_chk hc
  rw [hc] at HC
  by_cases a1 : n < 0
  · rw [truncA_arg hc a1]
    clear hri hc hr
    go_enter Tryd.func19, Tryd.ntmps19
    go_wp2_with fail
    refine (unhide HC).mono ?_
    rintro e w1 ⟨rfl, hb1⟩
    have HB1 := hide hb1
    clear hb1 HC
    go_wp2
    go_ret3
    exact ⟨⟨_, rfl, OwnP.nil _ _⟩, unhide HB1⟩
  by_cases a2 : 4611686018427387904 < n
  · rw [truncA_far hc a1 a2]
    clear hri hc hr
    go_enter Tryd.func19, Tryd.ntmps19
    go_wp2_with fail
    refine (unhide HC).mono ?_
    rintro e w1 ⟨rfl, hb1⟩
    have HB1 := hide hb1
    clear hb1 HC
    go_wp2
    go_ret3
    exact ⟨⟨_, rfl, OwnP.nil _ _⟩, unhide HB1⟩
  rw [truncA_ok hc a1 a2]
  have s1 := hri.hi
  have HPL := hide (fun W => places_any n W (by omega) (by omega))
  have HSK := hide (fun W (hW : Below w.heap.size w W) => seek_any a cap l ((n + 63) / 64) W (hr.below hW) hri.so (by omega))
  obtain ⟨j, hj⟩ : ∃ j, j = cntB l ((n + 63) / 64) := ⟨_, rfl⟩
  rw [← hj] at HSK
  have hjl : j ≤ l.length := hj ▸ cnt_le l _
  have hjc : j ≤ cap := by omega
  obtain ⟨T, hT⟩ : ∃ T, T = l.take j := ⟨_, rfl⟩
  have hTl : T.length = j := by rw [hT, List.length_take]; omega
  have HAL1 : Hid (∀ W, Below w.heap.size w W → Calls Tryd.prog 30 #[.slice a j cap] W fun e w' => ∃ a' cap', e = .returned (.slice a' j cap') ∧ OwnP W.heap.size w' (.slice a' j cap') T ∧ Below W.heap.size W w') := fun W hW => by
    have := alike_any a cap T W (hT ▸ Tw.take (hr.below hW) j) (by omega) (fun p hp => hd p (List.mem_of_mem_take (hT ▸ hp)))
    rw [hTl] at this
    exact this
  have HOK : Hid (∀ p ∈ T, PieceOk size p) := fun p hp => hri.ok p (List.mem_of_mem_take (hT ▸ hp))
  have HE : Hid (truncR l n = if T = [] then [] else T.set (T.length - 1) (wipP (T.getD (T.length - 1) (0, [])) n 4611686018427387904)) := by
    show _ = _
    rw [← trunc_eq hri, truncP, ← hj, ← hT]
  obtain ⟨LR, hLR⟩ : ∃ LR, LR = truncR l n := ⟨_, rfl⟩
  rw [← hLR] at HE ⊢
  have HTL := hide hTl
  clear hr hri hc hj hT hTl hLR
  obtain ⟨G, hG⟩ : ∃ G, G = (n + 63) / 64 := ⟨_, rfl⟩
  rw [← hG] at HPL HSK
  clear hG
  go_enter Tryd.func19, Tryd.ntmps19
  go_wp2_with fail
  refine (unhide HC).mono ?_
  rintro e w1 ⟨rfl, hb1⟩
  have HB1 := hide hb1
  clear hb1 HC
  go_wp2_with fail
  refine (unhide HPL _).mono ?_
  rintro e w2 ⟨rfl, rfl⟩
  go_wp2_with fail
  refine (unhide HSK _ (unhide HB1)).mono ?_
  rintro e w3 ⟨rfl, hb3⟩
  have HB3 := hide (below_then (unhide HB1) hb3)
  clear hb3 HB1
  go_wp2_with (refine slice_front rfl _ _ rfl rfl rfl hjc ?_)
  refine (unhide HAL1 _ (unhide HB3)).mono ?_
  rintro e w4 ⟨a4, cap4, rfl, ho4, hb4⟩
  have HO4 := hide (ho4.base (unhide HB3).size)
  have HB4 := hide (below_then (unhide HB3) hb4)
  clear ho4 hb4 HB3
  by_cases h0 : j = 0
  · subst h0
    have hT0 : T = [] := List.length_eq_zero_iff.1 (unhide HTL)
    have c0 : ¬ (0 : Int) ≤ -1 := by omega
    have HLR0 : Hid (LR = []) := by rw [hide_eq, unhide HE, if_pos hT0]
    have HO := unhide HO4
    rw [hT0, ← unhide HLR0] at HO
    have HOO := hide HO
    clear HO HO4 hT0
    go_wp2
    go_ret3
    exact ⟨⟨_, rfl, unhide HOO⟩, unhide HB4⟩
  · obtain ⟨k, rfl⟩ : ∃ k, j = k + 1 := ⟨j - 1, by omega⟩
    have htl := unhide HTL
    obtain ⟨⟨ix, da⟩, hx⟩ := get_some (l := T) (i := k) (by omega)
    obtain ⟨o1, o2, o3, o4⟩ := unhide HOK _ (List.mem_of_getElem? hx)
    simp only at o1 o2
    have hne : T ≠ [] := by
      intro e
      rw [e] at htl
      cases htl
    have hg : T.getD k (0, []) = (ix, da) := by rw [List.getD_eq_getElem?_getD, hx]; rfl
    have HLR0 : Hid (LR = T.set k (ix, wipB ix da n 4611686018427387904)) := by
      rw [hide_eq, unhide HE, if_neg hne, htl, Nat.add_sub_cancel, hg]
      rfl
    have ho := unhide HO4
    unfold OwnP at ho
    obtain ⟨b, cp, hv, hBb⟩ := own_block ho (by omega)
    rw [htl] at hv
    injection hv with hv1 hv2 hv3
    subst hv1 hv3
    have hkl : k < T.length := by omega
    have CF : Hid (∀ W : World, OwnP w.heap.size W (.slice (some ⟨b, 0, none⟩) (k + 1) cap4) T → W.cell? ⟨b, k * 2, none⟩ = some (.int .i64 ix) ∧ W.cell? ⟨b, k * 2 + 1, none⟩ = some (.string (tx da)) ∧ W.frozen? ⟨b, k * 2, none⟩ = false ∧ W.frozen? ⟨b, k * 2 + 1, none⟩ = false) := fun W h => by
      obtain ⟨p0, p1⟩ := two_get ixV daV T k _ hx
      unfold OwnP pcs at h
      rw [htl] at h
      exact ⟨(World.ownsRow.cellAt h (k * 2) (by omega)).trans p0, (World.ownsRow.cellAt h (k * 2 + 1) (by omega)).trans p1, World.ownsRow.frozenAt h _, World.ownsRow.frozenAt h _⟩
    have HWI := hide (fun W => wiped_any ix da n 4611686018427387904 W o1 (by omega) (by omega) (by omega) (Int.le_refl _))
    have HST : Hid (∀ (W : World) (D : List UInt8), OwnP w.heap.size W (.slice (some ⟨b, 0, none⟩) (k + 1) cap4) T → OwnP w.heap.size ((W.setCell ⟨b, k * 2, none⟩ (.int .i64 ix)).setCell ⟨b, k * 2 + 1, none⟩ (.string (tx D))) (.slice (some ⟨b, 0, none⟩) (k + 1) cap4) (T.set k (ix, D))) := fun W D h => by
      unfold OwnP at h ⊢
      rw [htl] at h
      rw [List.length_set, htl]
      exact own_put (f := ixV) (g := daV) h k ((ix, D) : Pc) hkl
    obtain ⟨f0, f1, f2, f3⟩ := unhide CF _ (unhide HO4)
    have hk0 : (0 : Int) ≤ (k : Int) := by omega
    have hk1 : (k : Int) < (k : Int) + 1 := by omega
    have HBb := hide hBb
    clear hne hg ho hBb htl hx hkl o3 o4 h0
    go_wp2_with fail
    refine (unhide HWI _).mono ?_
    rintro e w5 ⟨rfl, hb5⟩
    have HO5 := hide ((unhide HO4).below hb5)
    have HB5 := hide (below_then (unhide HB4) hb5)
    obtain ⟨g0, g1, g2, g3⟩ := unhide CF _ (unhide HO5)
    have HO6 := hide (unhide HST w5 (wipB ix da n 4611686018427387904) (unhide HO5))
    have HB6 := hide (((unhide HB5).setCell (p := ⟨b, k * 2, none⟩) (unhide HBb) (.int .i64 ix)).setCell (p := ⟨b, k * 2 + 1, none⟩) (unhide HBb) (.string (tx (wipB ix da n 4611686018427387904))))
    clear hb5 f0 f1 f2 f3
    rw [← unhide HLR0] at HO6
    go_wp2
    go_ret3
    exact ⟨⟨_, rfl, unhide HO6⟩, unhide HB6⟩
end Go.Proofs.YtmpgaecnibakdaaDoor
