/- Texts that the proof needs, one behind the other. -/
import Derived.Test.YtdelobaiicoogaaGreatDoorMbh
/- The document's look: a node with kids; the whole. -/
namespace Go.Proofs.YtdelobaiicoogaaGreatDoor
open Go.ChangeShapes Go.WideShapes Go.ChangeAt Go.RowKit
attribute [local go_sem] Oper.semAt_some
variable {w w' : World} {h : Hp} {F : List Nat} {q lb : Nat} {st : Sr}

/-- where the look at the kids stands -/
structure LKids (go : Sr → Int → ByteArray → ByteArray → Bool × Sr) (kds : List L6.Kd) (fr tt : ByteArray) (st0 : Sr) (w4 : World) (lb q : Nat) (h : Hp) (F : List Nat) (K : Nat) (st : Sr) (w : World) : Prop where
  rest : stepK go st0 kds fr tt = stepK go st (kds.drop K) fr tt
  ok : st.Ok
  at' : LookAt w lb q st
  heap : IsRh w q h F
  mv : Moves [lb] w4 w
theorem LKids.next {go : Sr → Int → ByteArray → ByteArray → Bool × Sr} {kds : List L6.Kd} {fr tt : ByteArray} {st0 st' : Sr} {w4 wr w5 : World} {K : Nat} (A : LKids go kds fr tt st0 w4 lb q h F K st' wr) {y : L6.Kd} (hd : kds.drop K = y :: kds.drop (K + 1)) {E G : ByteArray} (hE : endB (kds.drop (K + 1)) tt = E) (hG : maxB fr y.1 = G) {T1 : Bool × Sr} (hT1 : go st' y.2 G E = T1) (hb : T1.1 = true) (hok : T1.2.Ok) (hI : IsRh w5 q h F) (hS : LookAt w5 lb q T1.2) (hM : Moves [lb] wr w5) : LKids go kds fr tt st0 w4 lb q h F (K + 1) T1.2 w5 := by
  refine ⟨?_, hok, hS, hI, A.mv.then hM⟩
  rw [A.rest, hd]
  show (if (go st' y.2 (maxB fr y.1) (endB (kds.drop (K + 1)) tt)).1 = true then _ else _) = _
  rw [hE, hG, hT1, if_pos hb]
theorem LKids.stop {go : Sr → Int → ByteArray → ByteArray → Bool × Sr} {kds : List L6.Kd} {fr tt : ByteArray} {st0 st' : Sr} {w4 wr : World} {K : Nat} (A : LKids go kds fr tt st0 w4 lb q h F K st' wr) {y : L6.Kd} (hd : kds.drop K = y :: kds.drop (K + 1)) {E G : ByteArray} (hE : endB (kds.drop (K + 1)) tt = E) (hG : maxB fr y.1 = G) {T1 : Bool × Sr} (hT1 : go st' y.2 G E = T1) (hb : T1.1 = false) : stepK go st0 kds fr tt = (false, st') := by
  rw [A.rest, hd]
  show (if (go st' y.2 (maxB fr y.1) (endB (kds.drop (K + 1)) tt)).1 = true then _ else _) = _
  rw [hE, hG, hT1, if_neg (by rw [hb]; decide)]
theorem LKids.done {go : Sr → Int → ByteArray → ByteArray → Bool × Sr} {kds : List L6.Kd} {fr tt : ByteArray} {st0 st' : Sr} {w4 wr : World} (A : LKids go kds fr tt st0 w4 lb q h F kds.length st' wr) : stepK go st0 kds fr tt = (true, st') := by
  rw [A.rest, List.drop_length]
  rfl
theorem max_lo {fr k : ByteArray} (hq : L6.less k fr = true) : maxB fr k = fr := by rw [← maxB_alt, if_pos hq]
theorem max_key {fr k : ByteArray} (hq : L6.less k fr = false) : maxB fr k = k := by rw [← maxB_alt, if_neg (by rw [hq]; decide)]

set_option maxHeartbeats 8000000 in
set_option maxRecDepth 20000 in
theorem look_kids (go : Sr → Int → ByteArray → ByteArray → Bool × Sr) (X : Nat) (hX : X < 4096) (lvl : Nat) (h40 : lvl ≤ 40) (kds : List L6.Kd) (fr tt : ByteArray) (w : World) (H : IsRh w q h F) (S : LookAt w lb q st) (o : st.Ok) (h0 : 0 < lb) (hm : X ∉ st.met) (hop : h.dk.op.length ≤ 1000000) (hT : getR h (X : Int) = (⟨false, [], kds⟩, 0)) (hlen : kds.length ≤ 1007)
    (hkey : ∀ (k : Nat) (x : L6.Kd), kds[k + 1]? = some x → x.1 ≠ ⟨#[]⟩)
    (hgo : ∀ (y : L6.Kd) (st' : Sr) (a b : ByteArray) (w : World), y ∈ kds → st'.Ok → IsRh w q h F → LookAt w lb q st' → Calls Tryz.prog 41 #[.pointer (some ⟨lb, 0, none⟩), .int .i64 y.2, .int .i64 ((lvl : Int) + 1), .string a, .string b, .bool (bnd b)] w fun e w' => LookSaid (go st' y.2 a b) w lb q h F e w')
    (hok : ∀ (y : L6.Kd) (st' : Sr) (a b : ByteArray), y ∈ kds → st'.Ok → (go st' y.2 a b).1 = true → (go st' y.2 a b).2.Ok) :
    Calls Tryz.prog 41 #[.pointer (some ⟨lb, 0, none⟩), .int .i64 (X : Int), .int .i64 (lvl : Int), .string fr, .string tt, .bool (bnd tt)] w fun e w' => LookSaid (stepK go (st.come X lvl) kds fr tt) w lb q h F e w' := by
  have cX := S.cellM hX
  rw [decide_eq_false hm] at cX
  have fX := S.free (1 + X)
  have n0 : ¬ (X : Int) < 0 := by omega
  have n1 : ¬ (4095 : Int) < (X : Int) := by omega
  have n2 : (X : Int) < 4096 := by omega
  have n3 : ¬ (40 : Int) < (lvl : Int) := by omega
  have HH := hide H
  have HS := hide S
  have HT := hide hT
  have HLEN := hide hlen
  have HOP := hide hop
  have HO := hide o
  have HX := hide hX
  have HM := hide hm
  have H00 := hide h0
  have HGO := hide hgo
  have HOK := hide hok
  have HKEY := hide hkey
  have S2 := S.setM (max st.dp lvl) hX
  have e0 := S2.cell0
  have HS2 := hide S2
  have HH2 := hide (H.look S h0 (L5.Moves.set w lb (1 + X) (.bool true) (by simp)))
  clear H S hT hlen hop o hm h0 hgo hok hkey S2
  obtain ⟨T, hTT⟩ : ∃ T, T = stepK go (st.come X lvl) kds fr tt := ⟨_, rfl⟩
  rw [← hTT]
  have HTT := hide hTT
  clear hTT
  go_enter Tryz.func41, Tryz.ntmps41
  go_wp2_with fail
  refine (rhget_any (X : Int) (by unfold L5.I64; omega) _ (unhide HH2) (unhide HOP)).mono ?_
  rintro e w3 ⟨ai, ak, ci, ck, rfl, hh, hb3⟩
  rw [unhide HT] at hh ⊢
  have hm3 := moves_set (b := lb) (fp := [lb]) (by simp) (L5.Moves.of_below [lb] hb3)
  have hs3 := (unhide HS2).grow hb3
  have hb4 := below_alloc w3 (.cells #[.bool false, .slice ai 0 ci, .slice ak kds.length ck] 38)
  have hst : LookAt (w3.alloc (.cells #[.bool false, .slice ai 0 ci, .slice ak kds.length ck] 38)) lb q (st.come X lvl) := hs3.grow hb4
  have hKA : LKids go kds fr tt (st.come X lvl) (w3.alloc (.cells #[.bool false, .slice ai 0 ci, .slice ak kds.length ck] 38)) lb q h F 0 (st.come X lvl) (w3.alloc (.cells #[.bool false, .slice ai 0 ci, .slice ak kds.length ck] 38)) :=
    ⟨rfl, ⟨List.nodup_cons.2 ⟨unhide HM, (unhide HO).nd⟩, fun y hy => by
      rcases List.mem_cons.1 hy with e | h1
      · have := unhide HX; omega
      · exact (unhide HO).lt y h1⟩, hst, ((unhide HH2).grow hb3).grow hb4, L5.Moves.refl _ _⟩
  have HR4 := hide (hh.grow hb4).2
  have HN4 := hide (L6.Nblk.new w3 false ai ak 0 ci kds.length ck)
  have HKA := hide hKA
  have HST := hide hst
  have HM4 := hide (hm3.then (L5.Moves.of_below [lb] hb4))
  have HL3 := hide hs3.lt
  clear HS2 HH2 hb3 e0 cX fX hm3 hs3 hb4 hst hKA hh
  simp only
  go_wp2_with fail
  obtain ⟨P, hP⟩ : ∃ x, x = w3.heap.size := ⟨_, rfl⟩
  rw [← hP] at HN4 HL3 ⊢
  clear hP
  generalize w3.alloc (.cells #[.bool false, .slice ai 0 ci, .slice ak kds.length ck] 38) = w4 at *
  go_loopw [16] (fun t wr => ∃ (K : Nat) (st' : Sr), K ≤ kds.length ∧ t = .int .i64 (K : Int) ∧ LKids go kds fr tt (st.come X lvl) w4 lb q h F K st' wr) (fun t _ => kds.length - (intOf t).toNat)
  case atStart => exact ⟨0, _, Nat.zero_le _, rfl, unhide HKA⟩
  case round =>
    clear HKA
    obtain ⟨K, st', hK, rfl, hA⟩ := hrel
    have hN := hA.mv.block P (unhide HN4).lt (by have := unhide HL3; simp; omega)
    have hNb : L6.Nblk wr P false ai 0 ci ak kds.length ck := hN.trans (unhide HN4)
    have x2 := hNb.cell2
    have HA := hide hA
    clear hN hNb hA
    by_cases hlt : K < kds.length
    · obtain ⟨b, off, rfl, hrow⟩ := (row_apart (unhide HR4) (unhide HST) (unhide HA).mv).at hlt
      obtain ⟨y, hy⟩ := L6.get_some hlt
      have y0 := (hrow K y hy).1
      have y1 : wr.cell? ⟨b, off + K * 2 + 1, none⟩ = some (.int .i64 y.2) := (hrow K y hy).2
      have hmem : y ∈ kds := List.mem_of_getElem? hy
      have hdr := L6.drop_get hy
      have HY := hide hmem
      have HD := hide hdr
      have hlt' : (K : Int) < (kds.length : Int) := by omega
      have hl2 : K * 2 + 1 < kds.length * 2 := by omega
      have hwl : IntKind.i64.wrap ((lvl : Int) + 1) = ((lvl + 1 : Nat) : Int) := by rw [IntKind.wrap_i64]; omega
      have hwk : IntKind.i64.wrap ((K : Int) + 1) = ((K + 1 : Nat) : Int) := by rw [IntKind.wrap_i64]; have := unhide HLEN; omega
      clear hmem hdr hy
      by_cases hnx : K + 1 < kds.length
      · obtain ⟨z, hz⟩ := L6.get_some hnx
        have z0 := (hrow (K + 1) z hz).1
        have hzk := unhide HKEY K z hz
        have hbz : bnd z.1 = true := by unfold bnd; rw [decide_eq_false hzk]; rfl
        have HBZ := hide hbz
        have he : endB (kds.drop (K + 1)) tt = if pastB z.1 tt then tt else z.1 := by rw [endB_drop, hz]
        have hnx' : (K : Int) + 1 < (kds.length : Int) := by omega
        clear hrow hz hzk hbz
        by_cases ht : tt = ⟨#[]⟩
        · have hbd : bnd tt = false := by unfold bnd; rw [decide_eq_true ht]; rfl
          have HE : Hid (endB (kds.drop (K + 1)) tt = z.1) := he.trans (by unfold pastB; rw [if_pos ht]; rfl)
          rw [hbd]
          clear hbd ht he
          cases hq : L6.less y.1 fr with
          | true =>
            have hq1 : Op.bytesLess y.1.toList fr.toList = true := hq
            have HG := hide (max_lo hq)
            clear hq
            go_wp2_with fail
            have hAA := unhide HA
            have hc := unhide HGO y st' fr z.1 _ (unhide HY) hAA.ok hAA.heap hAA.at'
            rw [unhide HBZ] at hc
            refine hc.mono ?_
            rintro e w5 ⟨rfl, hI5, hM5, hS5⟩
            obtain ⟨T1, hT1⟩ : ∃ T1, go st' y.2 fr z.1 = T1 := ⟨_, rfl⟩
            rw [hT1] at hS5 ⊢
            have HT1 := hide hT1
            have HM5 := hide hM5
            have HI5 := hide hI5
            have HS5 := hide hS5
            clear hT1 hM5 hI5 hS5 hAA hc x2 y0 y1
            obtain ⟨B1, s1⟩ := T1
            simp only at HS5 ⊢
            cases B1 with
            | true =>
              have hok1 := unhide HOK y st' fr z.1 (unhide HY) (unhide HA).ok (by rw [unhide HT1])
              rw [unhide HT1] at hok1
              have HNX := hide ((unhide HA).next (unhide HD) (unhide HE) (unhide HG) (unhide HT1) rfl hok1 (unhide HI5) (unhide HS5 rfl) (unhide HM5))
              clear hok1
              go_wp2
              go_roundw
              case rel => exact ⟨K + 1, s1, by omega, by go_num, unhide HNX⟩
              case measure => simp [intOf]; omega
            | false =>
              have HST2 := hide ((unhide HTT).trans ((unhide HA).stop (unhide HD) (unhide HE) (unhide HG) (unhide HT1) rfl))
              go_wp2
              go_ret
              rw [unhide HST2]
              exact ⟨rfl, unhide HI5, ((unhide HM4).then (unhide HA).mv).then (unhide HM5), fun h => by simp at h⟩
          | false =>
            have hq1 : Op.bytesLess y.1.toList fr.toList = false := hq
            have HG := hide (max_key hq)
            clear hq
            go_wp2_with fail
            have hAA := unhide HA
            have hc := unhide HGO y st' y.1 z.1 _ (unhide HY) hAA.ok hAA.heap hAA.at'
            rw [unhide HBZ] at hc
            refine hc.mono ?_
            rintro e w5 ⟨rfl, hI5, hM5, hS5⟩
            obtain ⟨T1, hT1⟩ : ∃ T1, go st' y.2 y.1 z.1 = T1 := ⟨_, rfl⟩
            rw [hT1] at hS5 ⊢
            have HT1 := hide hT1
            have HM5 := hide hM5
            have HI5 := hide hI5
            have HS5 := hide hS5
            clear hT1 hM5 hI5 hS5 hAA hc x2 y0 y1
            obtain ⟨B1, s1⟩ := T1
            simp only at HS5 ⊢
            cases B1 with
            | true =>
              have hok1 := unhide HOK y st' y.1 z.1 (unhide HY) (unhide HA).ok (by rw [unhide HT1])
              rw [unhide HT1] at hok1
              have HNX := hide ((unhide HA).next (unhide HD) (unhide HE) (unhide HG) (unhide HT1) rfl hok1 (unhide HI5) (unhide HS5 rfl) (unhide HM5))
              clear hok1
              go_wp2
              go_roundw
              case rel => exact ⟨K + 1, s1, by omega, by go_num, unhide HNX⟩
              case measure => simp [intOf]; omega
            | false =>
              have HST2 := hide ((unhide HTT).trans ((unhide HA).stop (unhide HD) (unhide HE) (unhide HG) (unhide HT1) rfl))
              go_wp2
              go_ret
              rw [unhide HST2]
              exact ⟨rfl, unhide HI5, ((unhide HM4).then (unhide HA).mv).then (unhide HM5), fun h => by simp at h⟩
        · have hbd : bnd tt = true := by unfold bnd; rw [decide_eq_false ht]; rfl
          have HBD := hide hbd
          have hpb : pastB z.1 tt = !(L6.less z.1 tt) := by unfold pastB; rw [if_neg ht]
          rw [hpb] at he
          rw [hbd]
          clear hbd ht hpb
          cases hl : L6.less z.1 tt with
          | true =>
            have hl1 : Op.bytesLess z.1.toList tt.toList = true := hl
            rw [hl] at he
            have HE : Hid (endB (kds.drop (K + 1)) tt = z.1) := he
            clear hl he
            cases hq : L6.less y.1 fr with
            | true =>
              have hq1 : Op.bytesLess y.1.toList fr.toList = true := hq
              have HG := hide (max_lo hq)
              clear hq
              go_wp2_with fail
              have hAA := unhide HA
              have hc := unhide HGO y st' fr z.1 _ (unhide HY) hAA.ok hAA.heap hAA.at'
              rw [unhide HBZ] at hc
              refine hc.mono ?_
              rintro e w5 ⟨rfl, hI5, hM5, hS5⟩
              obtain ⟨T1, hT1⟩ : ∃ T1, go st' y.2 fr z.1 = T1 := ⟨_, rfl⟩
              rw [hT1] at hS5 ⊢
              have HT1 := hide hT1
              have HM5 := hide hM5
              have HI5 := hide hI5
              have HS5 := hide hS5
              clear hT1 hM5 hI5 hS5 hAA hc x2 y0 y1
              obtain ⟨B1, s1⟩ := T1
              simp only at HS5 ⊢
              cases B1 with
              | true =>
                have hok1 := unhide HOK y st' fr z.1 (unhide HY) (unhide HA).ok (by rw [unhide HT1])
                rw [unhide HT1] at hok1
                have HNX := hide ((unhide HA).next (unhide HD) (unhide HE) (unhide HG) (unhide HT1) rfl hok1 (unhide HI5) (unhide HS5 rfl) (unhide HM5))
                clear hok1
                go_wp2
                go_roundw
                case rel => exact ⟨K + 1, s1, by omega, by go_num, unhide HNX⟩
                case measure => simp [intOf]; omega
              | false =>
                have HST2 := hide ((unhide HTT).trans ((unhide HA).stop (unhide HD) (unhide HE) (unhide HG) (unhide HT1) rfl))
                go_wp2
                go_ret
                rw [unhide HST2]
                exact ⟨rfl, unhide HI5, ((unhide HM4).then (unhide HA).mv).then (unhide HM5), fun h => by simp at h⟩
            | false =>
              have hq1 : Op.bytesLess y.1.toList fr.toList = false := hq
              have HG := hide (max_key hq)
              clear hq
              go_wp2_with fail
              have hAA := unhide HA
              have hc := unhide HGO y st' y.1 z.1 _ (unhide HY) hAA.ok hAA.heap hAA.at'
              rw [unhide HBZ] at hc
              refine hc.mono ?_
              rintro e w5 ⟨rfl, hI5, hM5, hS5⟩
              obtain ⟨T1, hT1⟩ : ∃ T1, go st' y.2 y.1 z.1 = T1 := ⟨_, rfl⟩
              rw [hT1] at hS5 ⊢
              have HT1 := hide hT1
              have HM5 := hide hM5
              have HI5 := hide hI5
              have HS5 := hide hS5
              clear hT1 hM5 hI5 hS5 hAA hc x2 y0 y1
              obtain ⟨B1, s1⟩ := T1
              simp only at HS5 ⊢
              cases B1 with
              | true =>
                have hok1 := unhide HOK y st' y.1 z.1 (unhide HY) (unhide HA).ok (by rw [unhide HT1])
                rw [unhide HT1] at hok1
                have HNX := hide ((unhide HA).next (unhide HD) (unhide HE) (unhide HG) (unhide HT1) rfl hok1 (unhide HI5) (unhide HS5 rfl) (unhide HM5))
                clear hok1
                go_wp2
                go_roundw
                case rel => exact ⟨K + 1, s1, by omega, by go_num, unhide HNX⟩
                case measure => simp [intOf]; omega
              | false =>
                have HST2 := hide ((unhide HTT).trans ((unhide HA).stop (unhide HD) (unhide HE) (unhide HG) (unhide HT1) rfl))
                go_wp2
                go_ret
                rw [unhide HST2]
                exact ⟨rfl, unhide HI5, ((unhide HM4).then (unhide HA).mv).then (unhide HM5), fun h => by simp at h⟩
          | false =>
            have hl1 : Op.bytesLess z.1.toList tt.toList = false := hl
            rw [hl] at he
            have HE : Hid (endB (kds.drop (K + 1)) tt = tt) := he
            clear hl he
            cases hq : L6.less y.1 fr with
            | true =>
              have hq1 : Op.bytesLess y.1.toList fr.toList = true := hq
              have HG := hide (max_lo hq)
              clear hq
              go_wp2_with fail
              have hAA := unhide HA
              have hc := unhide HGO y st' fr tt _ (unhide HY) hAA.ok hAA.heap hAA.at'
              rw [unhide HBD] at hc
              refine hc.mono ?_
              rintro e w5 ⟨rfl, hI5, hM5, hS5⟩
              obtain ⟨T1, hT1⟩ : ∃ T1, go st' y.2 fr tt = T1 := ⟨_, rfl⟩
              rw [hT1] at hS5 ⊢
              have HT1 := hide hT1
              have HM5 := hide hM5
              have HI5 := hide hI5
              have HS5 := hide hS5
              clear hT1 hM5 hI5 hS5 hAA hc x2 y0 y1
              obtain ⟨B1, s1⟩ := T1
              simp only at HS5 ⊢
              cases B1 with
              | true =>
                have hok1 := unhide HOK y st' fr tt (unhide HY) (unhide HA).ok (by rw [unhide HT1])
                rw [unhide HT1] at hok1
                have HNX := hide ((unhide HA).next (unhide HD) (unhide HE) (unhide HG) (unhide HT1) rfl hok1 (unhide HI5) (unhide HS5 rfl) (unhide HM5))
                clear hok1
                go_wp2
                go_roundw
                case rel => exact ⟨K + 1, s1, by omega, by go_num, unhide HNX⟩
                case measure => simp [intOf]; omega
              | false =>
                have HST2 := hide ((unhide HTT).trans ((unhide HA).stop (unhide HD) (unhide HE) (unhide HG) (unhide HT1) rfl))
                go_wp2
                go_ret
                rw [unhide HST2]
                exact ⟨rfl, unhide HI5, ((unhide HM4).then (unhide HA).mv).then (unhide HM5), fun h => by simp at h⟩
            | false =>
              have hq1 : Op.bytesLess y.1.toList fr.toList = false := hq
              have HG := hide (max_key hq)
              clear hq
              go_wp2_with fail
              have hAA := unhide HA
              have hc := unhide HGO y st' y.1 tt _ (unhide HY) hAA.ok hAA.heap hAA.at'
              rw [unhide HBD] at hc
              refine hc.mono ?_
              rintro e w5 ⟨rfl, hI5, hM5, hS5⟩
              obtain ⟨T1, hT1⟩ : ∃ T1, go st' y.2 y.1 tt = T1 := ⟨_, rfl⟩
              rw [hT1] at hS5 ⊢
              have HT1 := hide hT1
              have HM5 := hide hM5
              have HI5 := hide hI5
              have HS5 := hide hS5
              clear hT1 hM5 hI5 hS5 hAA hc x2 y0 y1
              obtain ⟨B1, s1⟩ := T1
              simp only at HS5 ⊢
              cases B1 with
              | true =>
                have hok1 := unhide HOK y st' y.1 tt (unhide HY) (unhide HA).ok (by rw [unhide HT1])
                rw [unhide HT1] at hok1
                have HNX := hide ((unhide HA).next (unhide HD) (unhide HE) (unhide HG) (unhide HT1) rfl hok1 (unhide HI5) (unhide HS5 rfl) (unhide HM5))
                clear hok1
                go_wp2
                go_roundw
                case rel => exact ⟨K + 1, s1, by omega, by go_num, unhide HNX⟩
                case measure => simp [intOf]; omega
              | false =>
                have HST2 := hide ((unhide HTT).trans ((unhide HA).stop (unhide HD) (unhide HE) (unhide HG) (unhide HT1) rfl))
                go_wp2
                go_ret
                rw [unhide HST2]
                exact ⟨rfl, unhide HI5, ((unhide HM4).then (unhide HA).mv).then (unhide HM5), fun h => by simp at h⟩
      · have hnx' : ¬ (K : Int) + 1 < (kds.length : Int) := by omega
        have he : endB (kds.drop (K + 1)) tt = tt := by rw [endB_drop, List.getElem?_eq_none (by omega)]
        have HE := hide he
        clear he hrow
        cases hq : L6.less y.1 fr with
        | true =>
          have hq1 : Op.bytesLess y.1.toList fr.toList = true := hq
          have HG := hide (max_lo hq)
          clear hq
          go_wp2_with fail
          have hAA := unhide HA
          have hc := unhide HGO y st' fr tt _ (unhide HY) hAA.ok hAA.heap hAA.at'
          refine hc.mono ?_
          rintro e w5 ⟨rfl, hI5, hM5, hS5⟩
          obtain ⟨T1, hT1⟩ : ∃ T1, go st' y.2 fr tt = T1 := ⟨_, rfl⟩
          rw [hT1] at hS5 ⊢
          have HT1 := hide hT1
          have HM5 := hide hM5
          have HI5 := hide hI5
          have HS5 := hide hS5
          clear hT1 hM5 hI5 hS5 hAA hc x2 y0 y1
          obtain ⟨B1, s1⟩ := T1
          simp only at HS5 ⊢
          cases B1 with
          | true =>
            have hok1 := unhide HOK y st' fr tt (unhide HY) (unhide HA).ok (by rw [unhide HT1])
            rw [unhide HT1] at hok1
            have HNX := hide ((unhide HA).next (unhide HD) (unhide HE) (unhide HG) (unhide HT1) rfl hok1 (unhide HI5) (unhide HS5 rfl) (unhide HM5))
            clear hok1
            go_wp2
            go_roundw
            case rel => exact ⟨K + 1, s1, by omega, by go_num, unhide HNX⟩
            case measure => simp [intOf]; omega
          | false =>
            have HST2 := hide ((unhide HTT).trans ((unhide HA).stop (unhide HD) (unhide HE) (unhide HG) (unhide HT1) rfl))
            go_wp2
            go_ret
            rw [unhide HST2]
            exact ⟨rfl, unhide HI5, ((unhide HM4).then (unhide HA).mv).then (unhide HM5), fun h => by simp at h⟩
        | false =>
          have hq1 : Op.bytesLess y.1.toList fr.toList = false := hq
          have HG := hide (max_key hq)
          clear hq
          go_wp2_with fail
          have hAA := unhide HA
          have hc := unhide HGO y st' y.1 tt _ (unhide HY) hAA.ok hAA.heap hAA.at'
          refine hc.mono ?_
          rintro e w5 ⟨rfl, hI5, hM5, hS5⟩
          obtain ⟨T1, hT1⟩ : ∃ T1, go st' y.2 y.1 tt = T1 := ⟨_, rfl⟩
          rw [hT1] at hS5 ⊢
          have HT1 := hide hT1
          have HM5 := hide hM5
          have HI5 := hide hI5
          have HS5 := hide hS5
          clear hT1 hM5 hI5 hS5 hAA hc x2 y0 y1
          obtain ⟨B1, s1⟩ := T1
          simp only at HS5 ⊢
          cases B1 with
          | true =>
            have hok1 := unhide HOK y st' y.1 tt (unhide HY) (unhide HA).ok (by rw [unhide HT1])
            rw [unhide HT1] at hok1
            have HNX := hide ((unhide HA).next (unhide HD) (unhide HE) (unhide HG) (unhide HT1) rfl hok1 (unhide HI5) (unhide HS5 rfl) (unhide HM5))
            clear hok1
            go_wp2
            go_roundw
            case rel => exact ⟨K + 1, s1, by omega, by go_num, unhide HNX⟩
            case measure => simp [intOf]; omega
          | false =>
            have HST2 := hide ((unhide HTT).trans ((unhide HA).stop (unhide HD) (unhide HE) (unhide HG) (unhide HT1) rfl))
            go_wp2
            go_ret
            rw [unhide HST2]
            exact ⟨rfl, unhide HI5, ((unhide HM4).then (unhide HA).mv).then (unhide HM5), fun h => by simp at h⟩
    · obtain rfl : K = kds.length := by omega
      have HD := hide ((unhide HTT).trans (unhide HA).done)
      clear hlt
      go_wp2
      go_ret
      rw [unhide HD]
      exact ⟨rfl, (unhide HA).heap, (unhide HM4).then (unhide HA).mv, fun _ => (unhide HA).at'⟩
end Go.Proofs.YtdelobaiicoogaaGreatDoor
