/- Texts that the proof needs, one behind the other. -/
import Derived.Test.YtdelobaiicoogaaGreatDoorMbg
/- The program's search: a node with kids; the whole. -/
namespace Go.Proofs.YtdelobaiicoogaaGreatDoor
open Go.ChangeShapes Go.WideShapes Go.ChangeAt Go.RowKit
attribute [local go_sem] Oper.semAt_some
variable {w w' : World} {p d : Nat} {h : Hp} {c : Nat} {F : List Nat} {sb mb k : Nat} {lv dp err : Int} {f : Nat → Option Value} {st : Sr}

theorem endB_drop (l : List L6.Kd) (k : Nat) (t : ByteArray) : endB (l.drop k) t = match l[k]? with
    | none => t
    | some x => if pastB x.1 t then t else x.1 := by
  cases hx : l[k]? with
  | none =>
    have : l.drop k = [] := List.drop_eq_nil_iff.2 (List.getElem?_eq_none_iff.1 hx)
    rw [this]
    rfl
  | some x =>
    rw [L6.drop_get hx]
    rfl
theorem run_maxStr (a b : ByteArray) (w : World) : Sem.run Tryz.prog (Builtin.max_ #[9, 9] 9 #[.string a, .string b]) w = .ok (.string (maxB a b)) w := by
  have h : Op.stringOp .geq a b = pure (.bool !(L6.less a b)) := rfl
  unfold Builtin.max_
  simp only [List.foldlM, Builtin.max2]
  go_simp
  unfold maxB
  cases L6.less a b <;> simp
theorem its_len {n : L6.Nd} (hl : n.leaf = true) (h : (L6.ndL n).length ≤ 1007) : n.its.length ≤ 1007 := by
  unfold L6.ndL at h
  rw [if_pos hl] at h
  have := flat_len L6.itL (fun x => by unfold L6.itL L6.txL; have := L6.Pk.shL_pos x.1.size; simp; omega) n.its
  simp only [List.length_cons, List.length_append] at h
  omega
/-- where the search of the kids stands -/
structure KidsAt (go : Sr → Int → ByteArray → ByteArray → Bool × Sr) (kds : List L6.Kd) (fr tt : ByteArray) (st0 : Sr) (w4 : World) (sb p mb d : Nat) (h : Hp) (c : Nat) (F : List Nat) (K : Nat) (st : Sr) (w : World) : Prop where
  rest : stepK go st0 kds fr tt = stepK go st (kds.drop K) fr tt
  ok : st.Ok
  at' : SrchAt w sb p mb st
  heap : IsHeap w p d h c F
  mv : Moves [sb, mb] w4 w

theorem KidsAt.next {go : Sr → Int → ByteArray → ByteArray → Bool × Sr} {kds : List L6.Kd} {fr tt : ByteArray} {st0 st' : Sr} {w4 wr w5 : World} {K : Nat} (A : KidsAt go kds fr tt st0 w4 sb p mb d h c F K st' wr) {y : L6.Kd} (hd : kds.drop K = y :: kds.drop (K + 1)) {E : ByteArray} (hE : endB (kds.drop (K + 1)) tt = E) {T1 : Bool × Sr} (hT1 : go st' y.2 (maxB fr y.1) E = T1) (hb : T1.1 = true) (hok : T1.2.Ok) (hI : IsHeap w5 p d h c F) (hS : SrchAt w5 sb p mb T1.2) (hM : Moves [sb, mb] wr w5) : KidsAt go kds fr tt st0 w4 sb p mb d h c F (K + 1) T1.2 w5 := by
  refine ⟨?_, hok, hS, hI, A.mv.then hM⟩
  rw [A.rest, hd]
  show (if (go st' y.2 (maxB fr y.1) (endB (kds.drop (K + 1)) tt)).1 = true then _ else _) = _
  rw [hE, hT1, if_pos hb]
theorem KidsAt.stop {go : Sr → Int → ByteArray → ByteArray → Bool × Sr} {kds : List L6.Kd} {fr tt : ByteArray} {st0 st' : Sr} {w4 wr : World} {K : Nat} (A : KidsAt go kds fr tt st0 w4 sb p mb d h c F K st' wr) {y : L6.Kd} (hd : kds.drop K = y :: kds.drop (K + 1)) {E : ByteArray} (hE : endB (kds.drop (K + 1)) tt = E) {T1 : Bool × Sr} (hT1 : go st' y.2 (maxB fr y.1) E = T1) (hb : T1.1 = false) : stepK go st0 kds fr tt = (false, st') := by
  rw [A.rest, hd]
  show (if (go st' y.2 (maxB fr y.1) (endB (kds.drop (K + 1)) tt)).1 = true then _ else _) = _
  rw [hE, hT1, if_neg (by rw [hb]; decide)]
theorem KidsAt.done {go : Sr → Int → ByteArray → ByteArray → Bool × Sr} {kds : List L6.Kd} {fr tt : ByteArray} {st0 st' : Sr} {w4 wr : World} (A : KidsAt go kds fr tt st0 w4 sb p mb d h c F kds.length st' wr) : stepK go st0 kds fr tt = (true, st') := by
  rw [A.rest, List.drop_length]
  rfl

set_option maxHeartbeats 4000000 in
set_option maxRecDepth 20000 in
theorem right_kidsW (go : Sr → Int → ByteArray → ByteArray → Bool × Sr) (X : Nat) (hX : X < 4096) (lvl : Nat) (h40 : lvl ≤ 40) (kds : List L6.Kd) (fr tt : ByteArray) (w : World) (H : IsHeap w p d h c F) (S : SrchAt w sb p mb st) (o : st.Ok) (h0 : 0 < sb) (hmb : 0 < mb) (hF : mb ∉ F) (hm : X ∉ st.met) (hT : getR h (X : Int) = (⟨false, [], kds⟩, 0)) (hlen : kds.length ≤ 1007)
    (hgo : ∀ (y : L6.Kd) (st' : Sr) (a b : ByteArray) (w : World), y ∈ kds → st'.Ok → IsHeap w p d h c F → SrchAt w sb p mb st' → Calls Tryz.prog 40 #[.pointer (some ⟨sb, 0, none⟩), .int .i64 y.2, .int .i64 ((lvl : Int) + 1), .string a, .string b] w fun e w' => RightSaid (go st' y.2 a b) w sb p mb d h c F e w')
    (hok : ∀ (y : L6.Kd) (st' : Sr) (a b : ByteArray), y ∈ kds → st'.Ok → (go st' y.2 a b).1 = true → (go st' y.2 a b).2.Ok) :
    Calls Tryz.prog 40 #[.pointer (some ⟨sb, 0, none⟩), .int .i64 (X : Int), .int .i64 (lvl : Int), .string fr, .string tt] w fun e w' => RightSaid (stepK go (st.come X lvl) kds fr tt) w sb p mb d h c F e w' := by
  have c4 := SearchAt.cell4 S
  have f4 := SearchAt.free S 4
  have hk : st.met.length ≤ 100000 := by have := o.len; omega
  have HS := hide S
  have HH := hide H
  have HT := hide hT
  have hlv : (lvl : Int) ≤ 40 := by omega
  have hlv2 : ¬ (40 : Int) < (lvl : Int) := by omega
  have hmx : max (st.dp : Int) (lvl : Int) = ((max st.dp lvl : Nat) : Int) := by omega
  have HMX := hide hmx
  have HLEN := hide hlen
  have HGO := hide hgo
  have HOK := hide hok
  have HO := hide o
  have HX := hide hX
  have HM := hide hm
  have HFF := hide hF
  have H00 := hide h0
  have HMB := hide hmb
  have HK := hide hk
  clear S H hT hmx hlen hgo hok o hX hm hF h0 hmb hk
  obtain ⟨T, hTT⟩ : ∃ T, T = stepK go (st.come X lvl) kds fr tt := ⟨_, rfl⟩
  rw [← hTT]
  have HTT := hide hTT
  clear hTT
  go_enter Tryz.func40, Tryz.ntmps40
  go_wp2_with fail
  have S1 := SearchAt.setDp (unhide HS) (max (st.dp : Int) (lvl : Int))
  have H1 := (unhide HH).srch (unhide HS) (unhide H00) (L5.Moves.set w sb 4 (.int .i64 (max (st.dp : Int) (lvl : Int))) (by simp))
  refine (search_new X (unhide HX) sb mb _ _ _ _ H1 S1 (metF_none (unhide HM)) (unhide HFF) (unhide HMB) (unhide HK)).mono ?_
  rintro e w3 ⟨ai, ak, ci, ck, rfl, hh, hcp, hs, hmv, hI⟩
  rw [unhide HT] at hh hcp ⊢
  rw [metF_cons, unhide HMX] at hs
  have hm3 : Moves [sb, mb] w w3 := moves_set (b := sb) (by simp) (hmv.mono (fun x hx => .inl (by simp at hx; simp [hx])))
  have hb4 := below_alloc w3 (.cells #[.bool false, .slice ai 0 ci, .slice ak kds.length ck] 38)
  have hst : SrchAt (w3.alloc (.cells #[.bool false, .slice ai 0 ci, .slice ak kds.length ck] 38)) sb p mb (st.come X lvl) := hs.grow hb4
  have hKA : KidsAt go kds fr tt (st.come X lvl) (w3.alloc (.cells #[.bool false, .slice ai 0 ci, .slice ak kds.length ck] 38)) sb p mb d h c F 0 (st.come X lvl) (w3.alloc (.cells #[.bool false, .slice ai 0 ci, .slice ak kds.length ck] 38)) :=
    ⟨rfl, ⟨List.nodup_cons.2 ⟨unhide HM, (unhide HO).nd⟩, fun y hy => by
      rcases List.mem_cons.1 hy with e | h1
      · have := unhide HX; omega
      · exact (unhide HO).lt y h1⟩, hst, hI.grow hb4, L5.Moves.refl _ _⟩
  have HR4 := hide (hh.grow hb4).2
  have HN4 := hide (L6.Nblk.new w3 false ai ak 0 ci kds.length ck)
  have HKA := hide hKA
  have HST := hide hst
  have HM4 := hide (hm3.then (L5.Moves.of_below _ hb4))
  have HL3 := hide hs.lt
  have HML := hide hs.met.lt
  have HCK := hide hcp
  clear S1 H1 hh hcp hs hmv hI c4 f4 hm3 hb4 hst hKA
  simp only
  go_wp2_with fail
  obtain ⟨P, hP⟩ : ∃ x, x = w3.heap.size := ⟨_, rfl⟩
  rw [← hP] at HN4 HL3 HML ⊢
  clear hP
  generalize w3.alloc (.cells #[.bool false, .slice ai 0 ci, .slice ak kds.length ck] 38) = w4 at *
  have x0 := (unhide HN4).cell0
  have x1 := (unhide HN4).cell1
  have x2 := (unhide HN4).cell2
  go_loopw [67] (fun t wr => ∃ (K : Nat) (st' : Sr), K ≤ kds.length ∧ t = .int .i64 (K : Int) ∧ KidsAt go kds fr tt (st.come X lvl) w4 sb p mb d h c F K st' wr) (fun t _ => kds.length - (intOf t).toNat)
  case atStart => exact ⟨0, _, Nat.zero_le _, rfl, unhide HKA⟩
  case round =>
    clear HKA x0 x1 x2
    obtain ⟨K, st', hK, rfl, hA⟩ := hrel
    have hN := hA.mv.block P (unhide HN4).lt (by have := unhide HL3; have := unhide HML; simp; omega)
    have hNb : L6.Nblk wr P false ai 0 ci ak kds.length ck := hN.trans (unhide HN4)
    have x0 := hNb.cell0
    have x1 := hNb.cell1
    have x2 := hNb.cell2
    have HA := hide hA
    clear hN hNb hA
    by_cases hlt : K < kds.length
    · obtain ⟨b, off, rfl, hrow⟩ := (row_aside (unhide HR4) (unhide HST) (unhide HA).mv).at hlt
      obtain ⟨y, hy⟩ := L6.get_some hlt
      have y0 := (hrow K y hy).1
      have y1 : wr.cell? ⟨b, off + K * 2 + 1, none⟩ = some (.int .i64 y.2) := (hrow K y hy).2
      have x2' := cell_later' (.cells #[.string y.1, .int .i64 y.2] 76) x2
      have hmem : y ∈ kds := List.mem_of_getElem? hy
      have hdr := L6.drop_get hy
      have HY := hide hmem
      have HD := hide hdr
      have hlt' : (K : Int) < (kds.length : Int) := by omega
      have hl2 : K * 2 + 1 < kds.length * 2 := by omega
      have hwl : IntKind.i64.wrap ((lvl : Int) + 1) = ((lvl + 1 : Nat) : Int) := by rw [IntKind.wrap_i64]; omega
      have hwk : IntKind.i64.wrap ((K : Int) + 1) = ((K + 1 : Nat) : Int) := by rw [IntKind.wrap_i64]; have := unhide HLEN; omega
      clear hmem hdr hy
      by_cases hnx : K + 1 < kds.length
      · obtain ⟨z, hz⟩ := L6.get_some hnx
        have z0 := cell_later' (.cells #[.string y.1, .int .i64 y.2] 76) (hrow (K + 1) z hz).1
        have he : endB (kds.drop (K + 1)) tt = if pastB z.1 tt then tt else z.1 := by rw [endB_drop, hz]
        have HE := hide he
        have hnx' : (K : Int) + 1 < (kds.length : Int) := by omega
        clear hrow hz he
        have hmx := run_maxStr fr y.1
        cases hp : pastB z.1 tt with
        | true =>
          have HP := hide (isPast_any z.1 tt)
          rw [hp] at HP HE
          have HE : Hid (endB (kds.drop (K + 1)) tt = tt) := (unhide HE).trans (if_pos rfl)
          clear hp
          go_wp2_with (go_at_call 72; refine (unhide HP _).mono ?_; rintro e w2 ⟨rfl, hw2⟩; rw [hw2]; clear hw2)
          have hAA := unhide HA
          refine (unhide HGO y st' (maxB fr y.1) tt _ (unhide HY) hAA.ok (hAA.heap.grow (below_alloc _ _)) (SearchAt.grow hAA.at' (below_alloc _ _))).mono ?_
          rintro e w5 ⟨rfl, hI5, hM5, hS5⟩
          obtain ⟨T1, hT1⟩ : ∃ T1, go st' y.2 (maxB fr y.1) tt = T1 := ⟨_, rfl⟩
          rw [hT1] at hS5 ⊢
          have HT1 := hide hT1
          have HM5 := hide ((L5.Moves.of_below [sb, mb] (below_alloc wr (.cells #[.string y.1, .int .i64 y.2] 76))).then hM5)
          have HI5 := hide hI5
          have HS5 := hide hS5
          clear hT1 hM5 hI5 hS5 hAA x0 x1 x2 x2' y0 y1 z0
          obtain ⟨B1, s1⟩ := T1
          simp only at HS5 ⊢
          cases B1 with
          | true =>
            have hok1 := unhide HOK y st' (maxB fr y.1) tt (unhide HY) (unhide HA).ok (by rw [unhide HT1])
            rw [unhide HT1] at hok1
            have HNX := hide ((unhide HA).next (unhide HD) (unhide HE) (unhide HT1) rfl hok1 (unhide HI5) (unhide HS5 rfl) (unhide HM5))
            clear hok1
            go_wp2
            go_roundw
            case rel => exact ⟨K + 1, s1, by omega, by go_num, unhide HNX⟩
            case measure => simp [intOf]; omega
          | false =>
            have HST2 := hide ((unhide HTT).trans ((unhide HA).stop (unhide HD) (unhide HE) (unhide HT1) rfl))
            go_wp2
            go_ret
            rw [unhide HST2]
            exact ⟨rfl, unhide HI5, ((unhide HM4).then (unhide HA).mv).then (unhide HM5), fun h => by simp at h⟩
        | false =>
          have HP := hide (isPast_any z.1 tt)
          rw [hp] at HP HE
          have HE : Hid (endB (kds.drop (K + 1)) tt = z.1) := (unhide HE).trans (if_neg (by decide))
          clear hp
          go_wp2_with (go_at_call 72; refine (unhide HP _).mono ?_; rintro e w2 ⟨rfl, hw2⟩; rw [hw2]; clear hw2)
          have hAA := unhide HA
          refine (unhide HGO y st' (maxB fr y.1) z.1 _ (unhide HY) hAA.ok (hAA.heap.grow (below_alloc _ _)) (SearchAt.grow hAA.at' (below_alloc _ _))).mono ?_
          rintro e w5 ⟨rfl, hI5, hM5, hS5⟩
          obtain ⟨T1, hT1⟩ : ∃ T1, go st' y.2 (maxB fr y.1) z.1 = T1 := ⟨_, rfl⟩
          rw [hT1] at hS5 ⊢
          have HT1 := hide hT1
          have HM5 := hide ((L5.Moves.of_below [sb, mb] (below_alloc wr (.cells #[.string y.1, .int .i64 y.2] 76))).then hM5)
          have HI5 := hide hI5
          have HS5 := hide hS5
          clear hT1 hM5 hI5 hS5 hAA x0 x1 x2 x2' y0 y1 z0
          obtain ⟨B1, s1⟩ := T1
          simp only at HS5 ⊢
          cases B1 with
          | true =>
            have hok1 := unhide HOK y st' (maxB fr y.1) z.1 (unhide HY) (unhide HA).ok (by rw [unhide HT1])
            rw [unhide HT1] at hok1
            have HNX := hide ((unhide HA).next (unhide HD) (unhide HE) (unhide HT1) rfl hok1 (unhide HI5) (unhide HS5 rfl) (unhide HM5))
            clear hok1
            go_wp2
            go_roundw
            case rel => exact ⟨K + 1, s1, by omega, by go_num, unhide HNX⟩
            case measure => simp [intOf]; omega
          | false =>
            have HST2 := hide ((unhide HTT).trans ((unhide HA).stop (unhide HD) (unhide HE) (unhide HT1) rfl))
            go_wp2
            go_ret
            rw [unhide HST2]
            exact ⟨rfl, unhide HI5, ((unhide HM4).then (unhide HA).mv).then (unhide HM5), fun h => by simp at h⟩
      · have hnx' : ¬ (K : Int) + 1 < (kds.length : Int) := by omega
        have hmx := run_maxStr fr y.1
        have he : endB (kds.drop (K + 1)) tt = tt := by rw [endB_drop, List.getElem?_eq_none (by omega)]
        have HE := hide he
        clear he hrow
        go_wp2_with fail
        have hAA := unhide HA
        refine (unhide HGO y st' (maxB fr y.1) tt _ (unhide HY) hAA.ok (hAA.heap.grow (below_alloc _ _)) (SearchAt.grow hAA.at' (below_alloc _ _))).mono ?_
        rintro e w5 ⟨rfl, hI5, hM5, hS5⟩
        obtain ⟨T1, hT1⟩ : ∃ T1, go st' y.2 (maxB fr y.1) tt = T1 := ⟨_, rfl⟩
        rw [hT1] at hS5 ⊢
        have HT1 := hide hT1
        have HM5 := hide ((L5.Moves.of_below [sb, mb] (below_alloc wr (.cells #[.string y.1, .int .i64 y.2] 76))).then hM5)
        have HI5 := hide hI5
        have HS5 := hide hS5
        clear hT1 hM5 hI5 hS5 hAA x0 x1 x2 x2' y0 y1 
        obtain ⟨B1, s1⟩ := T1
        simp only at HS5 ⊢
        cases B1 with
        | true =>
          have hok1 := unhide HOK y st' (maxB fr y.1) tt (unhide HY) (unhide HA).ok (by rw [unhide HT1])
          rw [unhide HT1] at hok1
          have HNX := hide ((unhide HA).next (unhide HD) (unhide HE) (unhide HT1) rfl hok1 (unhide HI5) (unhide HS5 rfl) (unhide HM5))
          clear hok1
          go_wp2
          go_roundw
          case rel => exact ⟨K + 1, s1, by omega, by go_num, unhide HNX⟩
          case measure => simp [intOf]; omega
        | false =>
          have HST2 := hide ((unhide HTT).trans ((unhide HA).stop (unhide HD) (unhide HE) (unhide HT1) rfl))
          go_wp2
          go_ret
          rw [unhide HST2]
          exact ⟨rfl, unhide HI5, ((unhide HM4).then (unhide HA).mv).then (unhide HM5), fun h => by simp at h⟩
    · obtain rfl : K = kds.length := by omega
      have HD := hide ((unhide HTT).trans (unhide HA).done)
      clear hlt
      go_wp2
      go_ret
      rw [unhide HD]
      exact ⟨rfl, (unhide HA).heap, (unhide HM4).then (unhide HA).mv, fun _ => (unhide HA).at'⟩

/-- the whole search -/
theorem isRight_any {t : Nat} (s : Sane h t) (h0 : 0 < sb) (hmb : 0 < mb) (hF : mb ∉ F) : ∀ (f lvl : Nat), f + lvl = 43 → 1 ≤ lvl → ∀ (X : Nat) (st : Sr) (fr tt : ByteArray) (w : World), 0 < h.cnt (X : Int) → st.Ok → IsHeap w p d h c F → SrchAt w sb p mb st →
    Calls Tryz.prog 40 #[.pointer (some ⟨sb, 0, none⟩), .int .i64 (X : Int), .int .i64 (lvl : Int), .string fr, .string tt] w fun e w' => RightSaid (rightR h f st lvl (X : Int) fr tt) w sb p mb d h c F e w'
  | f, lvl, hf, h1, X, st, fr, tt, w, hc, o, H, S => by
    have hr := sane_range s hc
    obtain ⟨g0, gk⟩ := s.get (X : Int) hc
    obtain ⟨hR, hlen⟩ := getR_right g0
    have hT : getR h (X : Int) = ((getR h (X : Int)).1, 0) := by rw [← g0]
    have e0 : ((X : Int)).toNat = X := rfl
    by_cases hm : X ∈ st.met
    · have e : rightR h f st lvl (X : Int) fr tt = (false, st) := by
        cases f with
        | zero => rfl
        | succ f => unfold rightR; rw [if_pos (.inl hm)]
      rw [e]
      exact right_met X (by omega) lvl fr tt w H S h0 hm
    · by_cases h40 : 40 < lvl
      · have e : rightR h f st lvl (X : Int) fr tt = (false, st) := by
          cases f with
          | zero => rfl
          | succ f => unfold rightR; rw [if_pos (.inr h40)]
        rw [e]
        exact right_deep X (by omega) lvl h40 _ fr tt w H S o h0 hmb hF hm hT
      · match f, hf with
        | 0, hf => exact absurd hf (by omega)
        | f + 1, hf =>
          obtain ⟨n, hn⟩ : ∃ n, n = (getR h (X : Int)).1 := ⟨_, rfl⟩
          have e1 : rightR h (f + 1) st lvl (X : Int) fr tt = (if n.leaf = true then
              (if st.lv = 0 ∨ st.lv = lvl then (leafOkB (firstK n.its) (lastK n.its) fr tt, ⟨X :: st.met, lvl, max st.dp lvl⟩) else (false, st))
              else stepK (fun s y a b => rightR h f s (lvl + 1) y a b) (st.come (X : Int) lvl) n.kds fr tt) := by
            rw [hn]
            conv => lhs; unfold rightR
            rw [if_neg (by rintro (e | e); exact hm e; exact h40 e)]
            rfl
          rw [e1]
          rw [← hn] at hR hlen hT gk
          obtain ⟨L, its, kds⟩ := n
          cases L with
          | true =>
            have hl := leaf_its hR rfl
            rw [if_pos rfl]
            refine right_leaf X (by omega) lvl h1 (by omega) its kds fr tt w H S o h0 hmb hF hm hT hl.1 ?_
            have : its.length ≤ 1007 := its_len (n := ⟨true, its, kds⟩) rfl hlen
            omega
          | false =>
            have hl := right_kids hR rfl
            have hit : its = [] := hl.1
            subst hit
            rw [if_neg (show ¬ (false = true) from Bool.false_ne_true)]
            have hkl : kds.length ≤ 1007 := kds_len (n := ⟨false, [], kds⟩) rfl hlen
            have hcn : ∀ y ∈ kds, 0 < h.cnt y.2 := fun y hy => gk y.2 (List.mem_map.2 ⟨y, hy, rfl⟩)
            refine right_kidsW _ X (by omega) lvl (by omega) kds fr tt w H S o h0 hmb hF hm hT hkl (fun y st' a b w' hy o' H' S' => ?_) (fun y st' a b hy o' hT' => ?_)
            · have hry := sane_range s (hcn y hy)
              obtain ⟨Y, hY⟩ : ∃ Y : Nat, y.2 = (Y : Int) := ⟨y.2.toNat, by omega⟩
              have hcy := hcn y hy
              rw [hY] at hcy ⊢
              exact isRight_any s h0 hmb hF f (lvl + 1) (by omega) (by omega) Y st' a b w' hcy o' H' S'
            · exact (rightR_end s f st' (lvl + 1) y.2 a b (by omega) (hcn y hy) hT').ok o'
end Go.Proofs.YtdelobaiicoogaaGreatDoor

/- The document's look: whether a node is right: what was met, what is too deep, a leaf. -/
namespace Go.Proofs.YtdelobaiicoogaaGreatDoor
open Go.ChangeShapes Go.WideShapes Go.ChangeAt Go.RowKit
attribute [local go_sem] Oper.semAt_some
variable {w w' : World} {h : Hp} {F : List Nat} {q lb : Nat} {st : Sr}

theorem lookV_no (q : Nat) (st : Sr) (i : Nat) (s : ByteArray) : (lookV q st)[i]? ≠ some (.string s) := by
  intro h
  have := List.mem_of_getElem? h
  unfold lookV metV at this
  simp at this
/-- a row of texts lies apart from a look -/
theorem row_apart {β : Type} {sv : β → Value} {a : Option Addr} {l : List (ByteArray × β)} (R : L6.Row sv w a l) (S : LookAt w lb q st) (hm : Moves [lb] w w') : L6.Row sv w' a l :=
  row_keep R (fun x hx hl => by
    obtain ⟨b, off, s, e, hc⟩ := row_lies R hl
    rw [e] at hx
    injection hx with hx
    rw [← hx]
    refine hm.block b (World.block_lt_of_cell? _ _ hc) ?_
    simp only [List.mem_cons, List.not_mem_nil, or_false]
    rintro rfl
    unfold LookAt at S
    simp only [World.cell?, S, Option.isSome_none, Bool.false_eq_true, if_false] at hc
    exact lookV_no q st off s (by simpa using hc))
/-- what the look answers -/
def LookSaid (T : Bool × Sr) (w : World) (lb q : Nat) (h : Hp) (F : List Nat) (e : Ending) (w' : World) : Prop :=
  e = .returned (.bool T.1) ∧ IsRh w' q h F ∧ Moves [lb] w w' ∧ (T.1 = true → LookAt w' lb q T.2)
def bnd (t : ByteArray) : Bool := !(decide (t = ⟨#[]⟩))

set_option maxHeartbeats 2000000 in
set_option maxRecDepth 20000 in
theorem look_met (X : Nat) (hX : X < 4096) (lvl : Nat) (fr tt : ByteArray) (bd : Bool) (w : World) (H : IsRh w q h F) (S : LookAt w lb q st) (hm : X ∈ st.met) :
    Calls Tryz.prog 41 #[.pointer (some ⟨lb, 0, none⟩), .int .i64 (X : Int), .int .i64 (lvl : Int), .string fr, .string tt, .bool bd] w fun e w' => LookSaid (false, st) w lb q h F e w' := by
  have cX := S.cellM hX
  rw [decide_eq_true hm] at cX
  have n0 : ¬ (X : Int) < 0 := by omega
  have n1 : ¬ (4095 : Int) < (X : Int) := by omega
  have n2 : (X : Int) < 4096 := by omega
  have HH := hide H
  clear H S hm
  go_enter Tryz.func41, Tryz.ntmps41
  go_wp2
  go_ret
  exact ⟨rfl, unhide HH, L5.Moves.refl _ _, fun h => by simp at h⟩
set_option maxHeartbeats 2000000 in
set_option maxRecDepth 20000 in
theorem look_deep (X : Nat) (hX : X < 4096) (lvl : Nat) (h40 : 40 < lvl) (fr tt : ByteArray) (bd : Bool) (w : World) (H : IsRh w q h F) (S : LookAt w lb q st) (hm : X ∉ st.met) :
    Calls Tryz.prog 41 #[.pointer (some ⟨lb, 0, none⟩), .int .i64 (X : Int), .int .i64 (lvl : Int), .string fr, .string tt, .bool bd] w fun e w' => LookSaid (false, st) w lb q h F e w' := by
  have cX := S.cellM hX
  rw [decide_eq_false hm] at cX
  have n0 : ¬ (X : Int) < 0 := by omega
  have n1 : ¬ (4095 : Int) < (X : Int) := by omega
  have n2 : (X : Int) < 4096 := by omega
  have n3 : (40 : Int) < (lvl : Int) := by omega
  have HH := hide H
  clear H S hm
  go_enter Tryz.func41, Tryz.ntmps41
  go_wp2
  go_ret
  exact ⟨rfl, unhide HH, L5.Moves.refl _ _, fun h => by simp at h⟩
end Go.Proofs.YtdelobaiicoogaaGreatDoor

/- The document's look: a leaf. -/
namespace Go.Proofs.YtdelobaiicoogaaGreatDoor
open Go.ChangeShapes Go.WideShapes Go.ChangeAt Go.RowKit
attribute [local go_sem] Oper.semAt_some
variable {w w' : World} {h : Hp} {F : List Nat} {q lb : Nat} {st : Sr}

set_option maxHeartbeats 8000000 in
set_option maxRecDepth 20000 in
theorem look_leaf (X : Nat) (hX : X < 4096) (lvl : Nat) (h1 : 1 ≤ lvl) (h40 : lvl ≤ 40) (its : List L6.It) (kds : List L6.Kd) (fr tt : ByteArray) (w : World) (H : IsRh w q h F) (S : LookAt w lb q st) (h0 : 0 < lb) (hm : X ∉ st.met) (hop : h.dk.op.length ≤ 1000000) (hT : getR h (X : Int) = (⟨true, its, kds⟩, 0)) (hne : its ≠ []) (hlen : its.length ≤ 1099) :
    Calls Tryz.prog 41 #[.pointer (some ⟨lb, 0, none⟩), .int .i64 (X : Int), .int .i64 (lvl : Int), .string fr, .string tt, .bool (bnd tt)] w fun e w' => LookSaid (if st.lv = 0 ∨ st.lv = lvl then (leafOkB (firstK its) (lastK its) fr tt, ⟨X :: st.met, lvl, max st.dp lvl⟩) else (false, st)) w lb q h F e w' := by
  have cX := S.cellM hX
  rw [decide_eq_false hm] at cX
  have fX := S.free (1 + X)
  have n0 : ¬ (X : Int) < 0 := by omega
  have n1 : ¬ (4095 : Int) < (X : Int) := by omega
  have n2 : (X : Int) < 4096 := by omega
  have n3 : ¬ (40 : Int) < (lvl : Int) := by omega
  have HH := hide H
  have HS := hide S
  have HT := hide hT
  have HNE := hide hne
  have HLEN := hide hlen
  have HOP := hide hop
  have HH1 := hide h1
  have S2 := S.setM (max st.dp lvl) hX
  have e0 := S2.cell0
  have HS2 := hide S2
  have HH2 := hide (H.look S h0 (L5.Moves.set w lb (1 + X) (.bool true) (by simp)))
  clear H S hT hne hlen hop h1 S2
  go_enter Tryz.func41, Tryz.ntmps41
  go_wp2_with fail
  refine (rhget_any (X : Int) (by unfold L5.I64; omega) _ (unhide HH2) (unhide HOP)).mono ?_
  rintro e w3 ⟨ai, ak, ci, ck, rfl, hh, hb3⟩
  rw [unhide HT] at hh ⊢
  have HM3 := hide (moves_set (b := lb) (fp := [lb]) (by simp) (L5.Moves.of_below [lb] hb3))
  have HS3 := hide ((unhide HS2).grow hb3)
  have HH3 := hide ((unhide HH2).grow hb3)
  clear HS2 HH2 hb3 e0 cX fX
  obtain ⟨b, off, rfl, hrow⟩ := hh.1.at (k := 0) (List.length_pos_iff.2 (unhide HNE))
  obtain ⟨m, hm1⟩ : ∃ m, its.length = m + 1 := ⟨its.length - 1, by have := List.length_pos_iff.2 (unhide HNE); omega⟩
  obtain ⟨x0, hx0⟩ := L6.get_some (l := its) (k := 0) (by omega)
  obtain ⟨xl, hxl⟩ := L6.get_some (l := its) (k := m) (by omega)
  have ef : firstK its = x0.1 := by unfold firstK; rw [hx0]
  have el : lastK its = xl.1 := by unfold lastK; rw [hm1, show m + 1 - 1 = m from rfl, hxl]
  have HEF := hide (And.intro ef el)
  have r0 : w3.cell? ⟨b, off, none⟩ = some (.string x0.1) := by simpa using (hrow 0 x0 hx0).1
  have rl : w3.cell? ⟨b, off + m * 2, none⟩ = some (.string xl.1) := (hrow m xl hxl).1
  have hbl : lb ≠ b := by
    rintro rfl
    have h3 := unhide HS3
    unfold LookAt at h3
    have := r0
    simp only [World.cell?, h3, Option.isSome_none, Bool.false_eq_true, if_false] at this
    exact lookV_no _ _ _ _ (by simpa using this)
  have hm1100 : m < 1100 := by have := unhide HLEN; omega
  clear ef el hrow hh
  have hb4 := below_alloc w3 (.cells #[.bool true, .slice (some ⟨b, off, none⟩) (m + 1) ci, .slice ak kds.length ck] 38)
  have hS4 := (unhide HS3).grow hb4
  have hH4 := (unhide HH3).grow hb4
  have hM4 := (unhide HM3).then (L5.Moves.of_below [lb] hb4)
  have g3 := hS4.cellD
  have g3f := hS4.free 4097
  have q0 := cell_later' (.cells #[.bool true, .slice (some ⟨b, off, none⟩) (m + 1) ci, .slice ak kds.length ck] 38) r0
  have ql := cell_later' (.cells #[.bool true, .slice (some ⟨b, off, none⟩) (m + 1) ci, .slice ak kds.length ck] 38) rl
  have hPl : lb ≠ w3.heap.size := fun e => by have := (unhide HS3).lt; omega
  have y1 : (w3.alloc (.cells #[.bool true, .slice (some ⟨b, off, none⟩) (m + 1) ci, .slice ak kds.length ck] 38)).cell? ⟨w3.heap.size, 1, none⟩ = some (.slice (some ⟨b, off, none⟩) (m + 1) ci) := by simp
  have HS4 := hide hS4
  have HH4 := hide hH4
  have HM4 := hide hM4
  have HBL := hide hbl
  have HPL := hide hPl
  have e1 : ((m : Int) + 1 - 1) = (m : Int) := by omega
  have hw : IntKind.i64.wrap ((m : Int) + 1 - 1) = (m : Int) := by rw [IntKind.wrap_i64]; omega
  have hlt : (m : Int) < (m : Int) + 1 := by omega
  have hnn : (0 : Int) ≤ (m : Int) := by omega
  have h0w : ¬ (m : Int) + 1 - 1 < 0 := by omega
  clear hb4 hS4 hH4 hM4 r0 rl HM3 HS3 HH3
  simp only [hm1]
  by_cases hv : st.lv = lvl
  · have g3' : (w3.alloc (.cells #[.bool true, .slice (some ⟨b, off, none⟩) (m + 1) ci, .slice ak kds.length ck] 38)).cell? ⟨lb, 4097, none⟩ = some (.int .i64 (lvl : Int)) := by rw [g3]; show some (Value.int .i64 (st.lv : Int)) = _; rw [hv]
    have hl0 : ((lvl : Int) == 0) = false := beq_eq_false_iff_ne.2 (by have := unhide HH1; omega)
    have hl1 : ¬ (lvl : Int) = 0 := by have := unhide HH1; omega
    have HG := hide g3
    clear g3
    by_cases ht : tt = ⟨#[]⟩
    · have hbd : bnd tt = false := by unfold bnd; rw [decide_eq_true ht]; rfl
      have hlo : leafOkB x0.1 xl.1 fr tt = !(L6.less x0.1 fr) := by unfold leafOkB pastB; rw [if_pos ht]; simp
      have HLO := hide hlo
      rw [hbd]
      clear hbd hlo ht
      cases hq : L6.less x0.1 fr with
      | true =>
        have hq1 : Op.bytesLess x0.1.toList fr.toList = true := hq
        rw [hq] at HLO
        clear hq
        go_wp2
        go_ret
        rw [(unhide HEF).1, (unhide HEF).2, unhide HLO]
        refine ⟨by simp, unhide HH4, unhide HM4, fun _ => ?_⟩
        have h3 := unhide HS4
        unfold LookAt lookV at h3 ⊢
        simp only [hv] at h3
        exact h3
      | false =>
        have hq1 : Op.bytesLess x0.1.toList fr.toList = false := hq
        rw [hq] at HLO
        clear hq
        go_wp2
        go_ret
        rw [(unhide HEF).1, (unhide HEF).2, unhide HLO]
        refine ⟨by simp, unhide HH4, unhide HM4, fun _ => ?_⟩
        have h3 := unhide HS4
        unfold LookAt lookV at h3 ⊢
        simp only [hv] at h3
        exact h3
    · have hbd : bnd tt = true := by unfold bnd; rw [decide_eq_false ht]; rfl
      have hlo : leafOkB x0.1 xl.1 fr tt = (!(L6.less x0.1 fr) && L6.less xl.1 tt) := by unfold leafOkB pastB; rw [if_neg ht]; simp
      have HLO := hide hlo
      rw [hbd]
      clear hbd hlo ht
      cases hq : L6.less x0.1 fr with
      | true =>
        have hq1 : Op.bytesLess x0.1.toList fr.toList = true := hq
        rw [hq] at HLO
        clear hq
        go_wp2
        go_ret
        rw [(unhide HEF).1, (unhide HEF).2, unhide HLO]
        refine ⟨by simp, unhide HH4, unhide HM4, fun _ => ?_⟩
        have h3 := unhide HS4
        unfold LookAt lookV at h3 ⊢
        simp only [hv] at h3
        exact h3
      | false =>
        have hq1 : Op.bytesLess x0.1.toList fr.toList = false := hq
        rw [hq] at HLO
        clear hq
        cases hr : L6.less xl.1 tt with
        | true =>
          have hr1 : Op.bytesLess xl.1.toList tt.toList = true := hr
          rw [hr] at HLO
          clear hr
          go_wp2
          go_ret
          rw [(unhide HEF).1, (unhide HEF).2, unhide HLO]
          refine ⟨by simp, unhide HH4, unhide HM4, fun _ => ?_⟩
          have h3 := unhide HS4
          unfold LookAt lookV at h3 ⊢
          simp only [hv] at h3
          exact h3
        | false =>
          have hr1 : Op.bytesLess xl.1.toList tt.toList = false := hr
          rw [hr] at HLO
          clear hr
          go_wp2
          go_ret
          rw [(unhide HEF).1, (unhide HEF).2, unhide HLO]
          refine ⟨by simp, unhide HH4, unhide HM4, fun _ => ?_⟩
          have h3 := unhide HS4
          unfold LookAt lookV at h3 ⊢
          simp only [hv] at h3
          exact h3
  · by_cases hz : st.lv = 0
    · have g3' : (w3.alloc (.cells #[.bool true, .slice (some ⟨b, off, none⟩) (m + 1) ci, .slice ak kds.length ck] 38)).cell? ⟨lb, 4097, none⟩ = some (.int .i64 0) := by rw [g3]; show some (Value.int .i64 (st.lv : Int)) = _; rw [hz]; rfl
      have d3 := World.cell?_setCell_same _ ⟨lb, 4097, none⟩ (.int .i64 (lvl : Int)) g3'
      have d0 : ((w3.alloc (.cells #[.bool true, .slice (some ⟨b, off, none⟩) (m + 1) ci, .slice ak kds.length ck] 38)).setCell ⟨lb, 4097, none⟩ (.int .i64 (lvl : Int))).cell? ⟨b, off, none⟩ = some (.string x0.1) := (World.cell?_setCell_other _ _ _ _ (fun e => (unhide HBL) (by injection e))).trans q0
      have dl : ((w3.alloc (.cells #[.bool true, .slice (some ⟨b, off, none⟩) (m + 1) ci, .slice ak kds.length ck] 38)).setCell ⟨lb, 4097, none⟩ (.int .i64 (lvl : Int))).cell? ⟨b, off + m * 2, none⟩ = some (.string xl.1) := (World.cell?_setCell_other _ _ _ _ (fun e => (unhide HBL) (by injection e))).trans ql
      have dy : ((w3.alloc (.cells #[.bool true, .slice (some ⟨b, off, none⟩) (m + 1) ci, .slice ak kds.length ck] 38)).setCell ⟨lb, 4097, none⟩ (.int .i64 (lvl : Int))).cell? ⟨w3.heap.size, 1, none⟩ = some (.slice (some ⟨b, off, none⟩) (m + 1) ci) := (World.cell?_setCell_other _ _ _ _ (fun e => (unhide HPL) (by injection e))).trans y1
      clear g3
      by_cases ht : tt = ⟨#[]⟩
      · have hbd : bnd tt = false := by unfold bnd; rw [decide_eq_true ht]; rfl
        have hlo : leafOkB x0.1 xl.1 fr tt = !(L6.less x0.1 fr) := by unfold leafOkB pastB; rw [if_pos ht]; simp
        have HLO := hide hlo
        rw [hbd]
        clear hbd hlo ht
        cases hq : L6.less x0.1 fr with
        | true =>
          have hq1 : Op.bytesLess x0.1.toList fr.toList = true := hq
          rw [hq] at HLO
          clear hq
          go_wp2
          go_ret
          rw [(unhide HEF).1, (unhide HEF).2, unhide HLO]
          refine ⟨by simp, (unhide HH4).look (unhide HS4) h0 (L5.Moves.set _ lb 4097 _ (by simp)), (unhide HM4).then (L5.Moves.set _ lb 4097 _ (by simp)), fun _ => ?_⟩
          exact (unhide HS4).setD (max st.dp lvl) lvl
        | false =>
          have hq1 : Op.bytesLess x0.1.toList fr.toList = false := hq
          rw [hq] at HLO
          clear hq
          go_wp2
          go_ret
          rw [(unhide HEF).1, (unhide HEF).2, unhide HLO]
          refine ⟨by simp, (unhide HH4).look (unhide HS4) h0 (L5.Moves.set _ lb 4097 _ (by simp)), (unhide HM4).then (L5.Moves.set _ lb 4097 _ (by simp)), fun _ => ?_⟩
          exact (unhide HS4).setD (max st.dp lvl) lvl
      · have hbd : bnd tt = true := by unfold bnd; rw [decide_eq_false ht]; rfl
        have hlo : leafOkB x0.1 xl.1 fr tt = (!(L6.less x0.1 fr) && L6.less xl.1 tt) := by unfold leafOkB pastB; rw [if_neg ht]; simp
        have HLO := hide hlo
        rw [hbd]
        clear hbd hlo ht
        cases hq : L6.less x0.1 fr with
        | true =>
          have hq1 : Op.bytesLess x0.1.toList fr.toList = true := hq
          rw [hq] at HLO
          clear hq
          go_wp2
          go_ret
          rw [(unhide HEF).1, (unhide HEF).2, unhide HLO]
          refine ⟨by simp, (unhide HH4).look (unhide HS4) h0 (L5.Moves.set _ lb 4097 _ (by simp)), (unhide HM4).then (L5.Moves.set _ lb 4097 _ (by simp)), fun _ => ?_⟩
          exact (unhide HS4).setD (max st.dp lvl) lvl
        | false =>
          have hq1 : Op.bytesLess x0.1.toList fr.toList = false := hq
          rw [hq] at HLO
          clear hq
          cases hr : L6.less xl.1 tt with
          | true =>
            have hr1 : Op.bytesLess xl.1.toList tt.toList = true := hr
            rw [hr] at HLO
            clear hr
            go_wp2
            go_ret
            rw [(unhide HEF).1, (unhide HEF).2, unhide HLO]
            refine ⟨by simp, (unhide HH4).look (unhide HS4) h0 (L5.Moves.set _ lb 4097 _ (by simp)), (unhide HM4).then (L5.Moves.set _ lb 4097 _ (by simp)), fun _ => ?_⟩
            exact (unhide HS4).setD (max st.dp lvl) lvl
          | false =>
            have hr1 : Op.bytesLess xl.1.toList tt.toList = false := hr
            rw [hr] at HLO
            clear hr
            go_wp2
            go_ret
            rw [(unhide HEF).1, (unhide HEF).2, unhide HLO]
            refine ⟨by simp, (unhide HH4).look (unhide HS4) h0 (L5.Moves.set _ lb 4097 _ (by simp)), (unhide HM4).then (L5.Moves.set _ lb 4097 _ (by simp)), fun _ => ?_⟩
            exact (unhide HS4).setD (max st.dp lvl) lvl
    · have hl0 : ((st.lv : Int) == 0) = false := beq_eq_false_iff_ne.2 (by omega)
      have hl1 : ¬ (st.lv : Int) = 0 := by omega
      have hl2 : ((st.lv : Int) == (lvl : Int)) = false := beq_eq_false_iff_ne.2 (by omega)
      have g3' : (w3.alloc (.cells #[.bool true, .slice (some ⟨b, off, none⟩) (m + 1) ci, .slice ak kds.length ck] 38)).cell? ⟨lb, 4097, none⟩ = some (.int .i64 (st.lv : Int)) := g3
      clear g3
      go_wp2
      go_ret
      exact ⟨rfl, unhide HH4, unhide HM4, fun h => by simp at h⟩
end Go.Proofs.YtdelobaiicoogaaGreatDoor
