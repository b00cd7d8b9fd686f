/- The program's Ranges. -/
import Derived.Test.YtmpgaecnibakdaaDoorDp
namespace Go.Proofs.YtmpgaecnibakdaaDoor
open Go.ChangeShapes Go.WideShapes Go.ChangeAt Go.RowKit
attribute [local go_sem] Oper.semAt_some

def rngA (l : List Pc) (size : Int) : List Rg × Int := if chkR l size ≠ 0 then ([], 21) else (rngR l size, 0)
def AnsR (B : Nat) (x : List Rg × Int) (e : Ending) (w' : World) : Prop := ∃ v, e = .returned (.tuple #[v, .int .i64 x.2]) ∧ OwnR B w' v x.1
theorem rngA_form {l : List Pc} {size : Int} (h : chkR l size ≠ 0) : rngA l size = ([], 21) := if_pos h
theorem rngA_ok {l : List Pc} {size : Int} (h : chkR l size = 0) : rngA l size = (rngR l size, 0) := by
  unfold rngA
  rw [if_neg (by omega)]
theorem rngStep_nil (size : Int) (p : Pc) : rngStep size [] p = [(p.1 * 64, min (p.1 * 64 + 64) size)] := by
  unfold rngStep
  rw [if_neg (by simp [lastTo]), List.nil_append]
theorem rngStep_join (size : Int) (R : List Rg) (x : Int) (p : Pc) : rngStep size (R ++ [(x, p.1 * 64)]) p = R ++ [(x, min (p.1 * 64 + 64) size)] := by
  unfold rngStep
  rw [if_pos (by simp [lastTo]), List.dropLast_concat]
  simp
theorem rngStep_more (size : Int) (R : List Rg) (x y : Int) (p : Pc) (h : ¬ y = p.1 * 64) : rngStep size (R ++ [(x, y)]) p = R ++ [(x, y)] ++ [(p.1 * 64, min (p.1 * 64 + 64) size)] := by
  unfold rngStep
  rw [if_neg (by simp [lastTo, h])]
theorem rngR_len (l : List Pc) (size : Int) : (rngR l size).length ≤ l.length := by
  have := rng_len l [] size
  simpa [rngR] using this
theorem snoc_of {α : Type} {l : List α} {m : Nat} (h : l.length = m + 1) : ∃ r x, l = r ++ [x] ∧ r.length = m := by
  have hne : l ≠ [] := by
    intro e
    rw [e] at h
    cases h
  refine ⟨l.dropLast, l.getLast hne, (List.dropLast_concat_getLast hne).symm, by rw [List.length_dropLast]; omega⟩
theorem own_blockR {B : Nat} {w : World} {v : Value} {l : List Rg} (h : OwnR B w v l) (hn : 0 < l.length) : ∃ b cap, v = .slice (some ⟨b, 0, none⟩) l.length cap ∧ B ≤ b := own_block h hn
theorem two_last {α : Type} (f g : α → Value) (r : List α) (x y : α) (hf : f x = f y) : (two f g (r ++ [x])).set (r.length * 2 + 1) (g y) = two f g (r ++ [y]) := by
  rw [two_append, two_append, List.set_append_right _ _ (by rw [two_length]; omega), two_length, Nat.add_sub_cancel_left]
  show (two f g r) ++ [f x, g x].set 1 (g y) = two f g r ++ [f y, g y]
  rw [hf]
  rfl

set_option maxHeartbeats 4000000 in
set_option maxRecDepth 10000 in
theorem ranges_any (a : Option Addr) (cap : Nat) (l : List Pc) (size : Int) (w : World) (hr : Ps w a l) (hl : l.length ≤ 9000) (hd : ∀ p ∈ l, p.2.length ≤ 10000) :
    Calls Tryd.prog 23 #[.slice a l.length cap, .int .i64 size] w fun e w' => AnsR w.heap.size (rngA l size) e w' ∧ Below w.heap.size w w' := by
  have HC := hide (chk_any a cap l size w hr (by omega) (fun p hp => by have := hd p hp; omega))
  by_cases hc : chkR l size = 0
  case neg =>
    rw [rngA_form hc]
    have h21 : chkR l size = 21 := (chk_two l size).resolve_left hc
    rw [h21] at HC
    clear hr hc h21
    go_enter Tryd.func23, Tryd.ntmps23
    go_wp2_with fail
    refine (unhide HC).mono ?_
    rintro e w1 ⟨rfl, hb1⟩
    have HB1 := hide hb1
    clear hb1 HC
    go_wp2
    go_ret2
    exact ⟨⟨_, rfl, OwnR.nil _ _⟩, unhide HB1⟩
  have hri := right_chk hc
  rw [hc] at HC
  rw [rngA_ok hc]
  have s1 := hri.hi
  have HOK := hide hri.ok
  have HR := hide (fun W (hW : Below w.heap.size w W) => hr.below hW)
  obtain ⟨LR, hLR⟩ : ∃ LR, LR = rngR l size := ⟨_, rfl⟩
  have HLR := hide hLR
  rw [← hLR]
  clear hri hc hr hLR
  go_enter Tryd.func23, Tryd.ntmps23
  go_wp2_with fail
  refine (unhide HC).mono ?_
  rintro e w1 ⟨rfl, hb1⟩
  have HB1 := hide hb1
  clear hb1 HC
  go_wp2
  go_loopw [7, 21] (fun r s wr => ∃ k : Nat, k ≤ l.length ∧ s = .int .i64 k ∧ OwnR w.heap.size wr r (rngR (l.take k) size) ∧ Below w.heap.size w wr) (fun _ s _ => l.length - (intOf s).toNat)
  case atStart => exact ⟨0, Nat.zero_le _, rfl, OwnR.nil _ _, unhide HB1⟩
  case round =>
    obtain ⟨k, hk, rfl, ho, hb⟩ := hrel
    have HO := hide ho
    have HB := hide hb
    by_cases hlt : k < l.length
    · obtain ⟨⟨ix, da⟩, hx⟩ := get_some hlt
      obtain ⟨b, om, rfl, c0, c1, c2⟩ := (unhide HR _ hb).get hx
      have hlt' : (k : Int) < (l.length : Int) := by omega
      obtain ⟨o1, o2, o3, o4⟩ := unhide HOK _ (List.mem_of_getElem? hx)
      simp only at o1 o2 o3
      have hsn := rng_snoc (l.take k) (ix, da) size
      rw [← take_snoc hx] at hsn
      have hln := rngR_len (l.take k) size
      rw [List.length_take] at hln
      have HLT := hide hlt
      clear hx ho hb o4 HB1
      have b1 := b_alloc wr (.cells #[.int .i64 ix, .string (tx da)] 58)
      have n1 := heap_alloc_new wr (.cells #[.int .i64 ix, .string (tx da)] 58)
      have HB5 := hide (below_then (unhide HB) b1)
      have HO5 := hide ((unhide HO).below b1)
      generalize hW : wr.alloc (.cells #[.int .i64 ix, .string (tx da)] 58) = w5 at *
      obtain ⟨q, hq⟩ : ∃ q, q = wr.heap.size := ⟨_, rfl⟩
      have d0 : w5.cell? ⟨wr.heap.size, 0, none⟩ = some (.int .i64 ix) := (cell_of_row w5 _ 0 _ _ _ n1).trans rfl
      have d1 : w5.cell? ⟨wr.heap.size, 1, none⟩ = some (.string (tx da)) := (cell_of_row w5 _ 1 _ _ _ n1).trans rfl
      have T1 := hide (fun W => begin_any ix (tx da) W o1 (by omega))
      have y0 : 0 ≤ ix * 64 := by omega
      have y1 : ix * 64 ≤ 4611686018427387904 := by omega
      obtain ⟨R, hR⟩ : ∃ R, R = rngR (l.take k) size := ⟨_, rfl⟩
      rw [← hR] at HO5 hsn hln
      have HLN : Hid (R.length ≤ 9000) := by rw [hide_eq]; omega
      clear HO HB b1 n1 hlt hln hR
      obtain ⟨μ, hμ⟩ : ∃ μ, min (ix * 64 + 64) size = μ := ⟨_, rfl⟩
      by_cases h0 : R = []
      · subst h0
        rw [rngStep_nil, hμ] at hsn
        have HSN := hide hsn
        obtain ⟨a0, cap0, rfl⟩ := (unhide HO5).form
        have c00 : ¬ (0 : Int) ≤ -1 := by omega
        clear hsn
        go_wp2_with fail
        rw [← hq] at d0 d1 ⊢
        clear hW hq
        refine (unhide T1 _).mono ?_
        rintro e w6 ⟨rfl, hb6⟩
        have HO6 := hide ((unhide HO5).below hb6)
        have HB6 := hide (below_then (unhide HB5) hb6)
        have hs6 := (unhide HB6).size
        clear hb6 d0 d1 HO5 HB5
        go_wp2_with (at_builtin; refine app_rg (ix * 64) μ rfl _ _ rfl rfl rfl hs6 (unhide HO6) (by simp) ?_; intro a' cap' w' ho' hb'; have HO9 := hide ho'; have HB9 := hide ((unhide HB6).trans hb'); clear ho' hb')
        go_roundw
        case rel => exact ⟨k + 1, by have := unhide HLT; omega, by go_num, by rw [unhide HSN]; exact unhide HO9, unhide HB9⟩
        case measure => have := unhide HLT; simp [intOf] <;> omega
      · obtain ⟨m, hm⟩ : ∃ m, R.length = m + 1 := ⟨R.length - 1, by have := List.length_pos_iff.2 h0; omega⟩
        obtain ⟨R0, ⟨x, y⟩, rfl, hm0⟩ := snoc_of hm
        obtain ⟨g, cp, hv, hBg⟩ := own_blockR (unhide HO5) (by omega)
        have hmb : m ≤ 9000 := by have := unhide HLN; omega
        subst hv
        have CF : Hid (∀ W : World, OwnR w.heap.size W (.slice (some ⟨g, 0, none⟩) (R0 ++ [(x, y)]).length cp) (R0 ++ [(x, y)]) → W.cell? ⟨g, m * 2 + 1, none⟩ = some (.int .i64 y) ∧ W.frozen? ⟨g, m * 2 + 1, none⟩ = false) := fun W h => by
          obtain ⟨_, p1⟩ := two_get frV toV (R0 ++ [(x, y)]) m (x, y) (by rw [List.getElem?_append_right (by omega), hm0, Nat.sub_self]; rfl)
          unfold OwnR rgs at h
          exact ⟨(World.ownsRow.cellAt h (m * 2 + 1) (by omega)).trans p1, World.ownsRow.frozenAt h _⟩
        by_cases hj : y = ix * 64
        · subst hj
          rw [rngStep_join (p := (ix, da)), hμ] at hsn
          have HSN := hide hsn
          have HST : Hid (∀ W : World, OwnR w.heap.size W (.slice (some ⟨g, 0, none⟩) (m + 1) cp) (R0 ++ [(x, ix * 64)]) → OwnR w.heap.size (W.setCell ⟨g, m * 2 + 1, none⟩ (.int .i64 μ)) (.slice (some ⟨g, 0, none⟩) (m + 1) cp) (R0 ++ [(x, μ)])) := fun W h => by
            unfold OwnR rgs at h ⊢
            rw [hm] at h
            rw [List.length_append, List.length_singleton, hm0, ← two_last frV toV R0 (x, ix * 64) (x, μ) rfl, hm0]
            exact (World.ownsRow.stored h (m * 2 + 1) (.int .i64 μ)).1
          rw [hm] at HO5 CF ⊢
          have hk0 : (0 : Int) ≤ (m : Int) := by omega
          have hk1 : (m : Int) < (m : Int) + 1 := by omega
          have HBg := hide hBg
          clear hsn hBg hm hm0 h0
          go_wp2_with fail
          rw [← hq] at d0 d1 ⊢
          clear hW hq
          refine (unhide T1 _).mono ?_
          rintro e w6 ⟨rfl, hb6⟩
          have HO6 := hide ((unhide HO5).below hb6)
          have HB6 := hide (below_then (unhide HB5) hb6)
          clear hb6 d0 d1 HO5 HB5
          obtain ⟨g1, g3⟩ := unhide CF _ (unhide HO6)
          have HO9 := hide (unhide HST _ (unhide HO6))
          have HB9 := hide ((unhide HB6).setCell (p := ⟨g, m * 2 + 1, none⟩) (unhide HBg) (.int .i64 μ))
          go_wp2
          go_roundw
          case rel => exact ⟨k + 1, by have := unhide HLT; omega, by go_num, by rw [unhide HSN]; exact unhide HO9, unhide HB9⟩
          case measure => have := unhide HLT; simp [intOf] <;> omega
        · rw [rngStep_more _ _ _ _ (ix, da) hj, hμ] at hsn
          have HSN := hide hsn
          have hj' : (y == ix * 64) = false := by simp [hj]
          have HMM : Hid ((R0 ++ [(x, y)]).length = m + 1) := hm
          obtain ⟨R, hR⟩ : ∃ R, R = R0 ++ [(x, y)] := ⟨_, rfl⟩
          rw [← hR] at HO5 CF HSN HMM HLN ⊢
          have hk0 : (0 : Int) ≤ (m : Int) := by omega
          have hk1 : (m : Int) < (m : Int) + 1 := by omega
          clear hsn hBg hm hm0 h0 hR
          rw [unhide HMM] at HO5 CF ⊢
          go_wp2_with fail
          rw [← hq] at d0 d1 ⊢
          clear hW hq
          refine (unhide T1 _).mono ?_
          rintro e w6 ⟨rfl, hb6⟩
          have HO6 := hide ((unhide HO5).below hb6)
          have HB6 := hide (below_then (unhide HB5) hb6)
          have hs6 := (unhide HB6).size
          clear hb6 d0 d1 HO5 HB5
          obtain ⟨g1, g3⟩ := unhide CF _ (unhide HO6)
          rw [← unhide HMM] at HO6
          go_wp2_with (at_builtin; refine app_rg (ix * 64) μ rfl _ _ rfl (by rw [← unhide HMM]; rfl) rfl hs6 (unhide HO6) (by have := unhide HLN; omega) ?_; intro a' cap' w' ho' hb'; have HO9 := hide ho'; have HB9 := hide ((unhide HB6).trans hb'); clear ho' hb')
          go_roundw
          case rel => exact ⟨k + 1, by have := unhide HLT; omega, by go_num, by rw [unhide HSN]; exact unhide HO9, unhide HB9⟩
          case measure => have := unhide HLT; simp [intOf] <;> omega
    · obtain rfl : k = l.length := by omega
      have hlt' : ¬ (l.length : Int) < (l.length : Int) := by omega
      rw [List.take_length, ← unhide HLR] at ho
      have HOL := hide ho
      obtain ⟨a0, cap0, rfl⟩ := (unhide HOL).form
      clear ho HO hlt hb HB1
      go_wp2
      go_ret2
      exact ⟨⟨_, rfl, unhide HOL⟩, unhide HB⟩
end Go.Proofs.YtmpgaecnibakdaaDoor
