/- Texts that the proof needs, one behind the other. -/
import Derived.Test.YtdelobaiicoogaaGreatDoorMbb
/- Decode, as the document answers: nodes with kids. -/
namespace Go.Proofs.YtdelobaiicoogaaGreatDoor.L6
open Go.ChangeShapes Go.WideShapes Go.ChangeAt Go.RowKit

theorem place_bad {n : Nat} (h : 4095 < n) (h2 : n < 18446744073709551616) (k : ByteArray) : mayK (k, wrap64 (n : Int)) = false := by
  cases hm : mayK (k, wrap64 (n : Int)) with
  | false => rfl
  | true =>
    simp [mayK] at hm
    unfold wrap64 at hm
    omega
/-- a kid whose place is beyond: the node isn't right -/
theorem kids_bad {C c : Nat} {L1 L : ByteArray} {e1 : Nat} {pre : List Kd} (h : Lat kidR C L1 e1 pre (c + 1) L 0) (hm : mayK (kidR L 0).1 = false) : rightB ⟨false, [], (listR kidR C L1 e1).1⟩ ≠ true := by
  intro hr
  obtain ⟨_, _, hrise⟩ := right_kids hr
  have := rise_all _ _ hrise (kidR L 0).1 (by rw [h.same, listR_next]; simp)
  rw [hm] at this
  simp at this

set_option maxRecDepth 10000 in
set_option maxHeartbeats 8000000 in
theorem refDecode_kids (S : ByteArray) (w : World) (h1 : S.size ≤ 1007) (h2 : (byteR S 0).1 = 2) (h3 : (shortR (byteR S 0).2.1 (byteR S 0).2.2).1 ≤ 1007) :
    Calls Tryz.prog 143 #[.string S] w fun x w' => DecSaid (decodeN S) w x w' := by
  have HDC := hide (refDec_in (S := S) (by omega))
  have HRN : Hid (readN S = (⟨false, [], (listR kidR (shortR (byteR S 0).2.1 (byteR S 0).2.2).1 (shortR (byteR S 0).2.1 (byteR S 0).2.2).2.1 (shortR (byteR S 0).2.1 (byteR S 0).2.2).2.2).1⟩, (listR kidR (shortR (byteR S 0).2.1 (byteR S 0).2.2).1 (shortR (byteR S 0).2.1 (byteR S 0).2.2).2.1 (shortR (byteR S 0).2.1 (byteR S 0).2.2).2.2).2)) := by
    show _ = _
    unfold readN
    rw [if_neg (by omega), if_pos h2]
    rfl
  have hle := byteR_le S 0
  have hle2 := shortR_le (byteR S 0).2.1 (byteR S 0).2.2
  have hcl := shortR_lt (byteR S 0).2.1 (byteR S 0).2.2
  have HC1 := hide (fun W G (hW : Rm W G S 0) => refByte_any G 0 S W hW (by omega))
  have HC2 := hide (fun W G (hW : Rm W G (byteR S 0).2.1 (byteR S 0).2.2) => refShortR_any G _ _ W hW (by omega))
  have hb0 := below_alloc w (.cells #[.bool false, .slice none 0 0, .slice none 0 0] 38)
  have hb1 := below_alloc (w.alloc (.cells #[.bool false, .slice none 0 0, .slice none 0 0] 38)) (.cells #[.string S, .int .i64 0] 290)
  have hsz : (w.alloc (.cells #[.bool false, .slice none 0 0, .slice none 0 0] 38)).heap.size = w.heap.size + 1 := by simp
  have hrm := Rm.new (w.alloc (.cells #[.bool false, .slice none 0 0, .slice none 0 0] 38)) S
  rw [hsz] at hrm
  have HP := hide ((Nblk.new w false none none 0 0 0 0).below hb1)
  have HR := hide hrm
  have HB := hide (below_then hb0 hb1)
  clear hb0 hb1 hsz hrm
  go_enter Tryz.func143, Tryz.ntmps143
  go_wp2_with fail
  obtain ⟨p, hp⟩ : ∃ y, y = w.heap.size := ⟨_, rfl⟩
  rw [← hp] at HP HR ⊢
  have hpw : w.heap.size ≤ p := Nat.le_of_eq hp.symm
  clear hp
  obtain ⟨g, hg⟩ : ∃ y, y = p + 1 := ⟨_, rfl⟩
  rw [← hg] at HR ⊢
  have hgw : w.heap.size ≤ g := by omega
  have hpg : p ≠ g := by omega
  clear hg
  generalize (w.alloc (.cells #[.bool false, .slice none 0 0, .slice none 0 0] 38)).alloc (.cells #[.string S, .int .i64 0] 290) = w1 at *
  refine (unhide HC1 _ g (unhide HR)).mono ?_
  rintro x w2 ⟨rfl, ht⟩
  have HP := hide ((unhide HP).toldM ht hpg)
  have HR := hide ht.2
  have HB := hide ((unhide HB).grown ht.1 (unhide HB).size (fun k hk => by injection hk with hk; omega))
  clear ht HC1
  generalize byteR S 0 = T at *
  go_wp2_with fail
  refine (unhide HC2 _ g (unhide HR)).mono ?_
  rintro x w3 ⟨rfl, ht⟩
  have HP := hide ((unhide HP).toldM ht hpg)
  have HR := hide ht.2
  have HB := hide ((unhide HB).grown ht.1 (unhide HB).size (fun k hk => by injection hk with hk; omega))
  clear ht HC2
  generalize shortR T.2.1 T.2.2 = U at *
  have g1 : ((T.1 : Int) == 1) = false := beq_eq_false_iff_ne.2 (by omega)
  have g2 : ((T.1 : Int) != 1) = true := by rw [bne, g1]; rfl
  have g3 : ((T.1 : Int) == 2) = true := beq_iff_eq.2 (by omega)
  have g4 : ((T.1 : Int) != 2) = false := by rw [bne, g3]; rfl
  have k1 : ¬ (1007 : Int) < (S.size : Int) := by omega
  have k3 : ¬ (1007 : Int) < (U.1 : Int) := by omega
  obtain ⟨C, L1, e1⟩ := U
  simp only at h3 hle2 hcl HRN k3 HR ⊢
  have hL1 : L1.size ≤ 1007 := by omega
  clear h2
  go_wp2_with fail
  have HQ := hide (Nblk.new w3 false none none 0 0 0 0)
  have hbq := below_alloc w3 (.cells #[.bool false, .slice none 0 0, .slice none 0 0] 38)
  obtain ⟨q, hq⟩ : ∃ y, y = w3.heap.size := ⟨_, rfl⟩
  have hqw : w.heap.size ≤ q := by have := (unhide HB).size; omega
  have hpq : p ≠ q := by have := (unhide HP).lt; omega
  rw [← hq] at HQ ⊢
  clear hq
  have HD0 : Hid (Dst w p g q (w3.alloc (.cells #[.bool false, .slice none 0 0, .slice none 0 0] 38)).heap.size (w3.alloc (.cells #[.bool false, .slice none 0 0, .slice none 0 0] 38)) L1 e1 false none 0 0 none 0 0) :=
    ⟨below_then (unhide HB) hbq, (unhide HP).below hbq, (unhide HR).below hbq, unhide HQ, hpq, hpw, hgw, hqw, Nat.le_trans (unhide HB).size hbq.size, Nat.le_refl _⟩
  generalize w3.alloc (.cells #[.bool false, .slice none 0 0, .slice none 0 0] 38) = wq at *
  obtain ⟨B, hB⟩ : ∃ y, y = wq.heap.size := ⟨_, rfl⟩
  rw [← hB] at HD0
  clear hB HQ hbq HP HR HB hpq
  have hwC : wrap64 (C : Int) = (C : Int) := by unfold wrap64; omega
  go_wp2
  go_loopw [8] (fun t wr => ∃ (i : Nat) (pre : List Kd) (L : ByteArray) (e : Nat) (a : Option Addr) (cap : Nat), i ≤ C ∧ t = .int .i64 i ∧ Lat kidR C L1 e1 pre (C - i) L e ∧ OwnE kv 76 B wr (.slice a pre.length cap) pre ∧ Dst w p g q B wr L e false none 0 0 a pre.length cap) (fun t _ => C - (intOf t).toNat)
  case atStart => exact ⟨0, [], L1, e1, none, 0, Nat.zero_le _, rfl, Lat.start _ _ _ _, OwnE.nil _ _ _ _, unhide HD0⟩
  case round =>
    clear HD0
    obtain ⟨i, pre, L, e, a, cap, hi, rfl, hlat, hown, hd⟩ := hrel
    have hsz := hlat.less
    have HLat := hide hlat
    have HO := hide hown
    have HD := hide hd
    have r1 := hd.rd.cell1
    have hpl : pre.length ≤ 2000 := by
      have h := listR_len (f := kidR) kidR_lt C L1 e1
      rw [hlat.same, List.length_append] at h
      omega
    clear hlat hown hd
    by_cases hlt : i < C
    · have v4 : (i : Int) < (C : Int) := by omega
      by_cases he : e = 0
      · subst he
        obtain ⟨c', hc'⟩ : ∃ c', C - i = c' + 1 := ⟨C - i - 1, by omega⟩
        have hnx := unhide HLat
        rw [hc'] at hnx
        have hc2 : c' = C - (i + 1) := by omega
        have hnx2 := hnx.next kidR_le kidR_lt
        rw [hc2] at hnx2
        have HNX := hide hnx2
        have HBAD := hide (fun h => kids_bad hnx h)
        clear hnx hnx2 hc2 hc'
        have HT1 := hide (fun W (hW : Rm W g L 0) => refTextR_any g 0 L 272 W hW (by omega) (by omega))
        have hle3 := textR_le L 0 272
        have HT2 := hide (fun W (hW : Rm W g (textR L 0 272).2.1 (textR L 0 272).2.2) => refShortR_any g _ _ W hW (by omega))
        have hcl2 := shortR_lt (textR L 0 272).2.1 (textR L 0 272).2.2
        have e1' : (kidR L 0).1 = ((textR L 0 272).1, wrap64 ((shortR (textR L 0 272).2.1 (textR L 0 272).2.2).1 : Int)) := rfl
        have e2' : (kidR L 0).2 = ((shortR (textR L 0 272).2.1 (textR L 0 272).2.2).2.1, (shortR (textR L 0 272).2.1 (textR L 0 272).2.2).2.2) := rfl
        rw [e1', e2'] at HNX
        rw [e1'] at HBAD
        clear e1' e2' hle3
        generalize textR L 0 272 = X at *
        obtain ⟨K1, L2, e2⟩ := X
        simp only at HT1 HT2 HNX HBAD hcl2
        generalize shortR L2 e2 = Y at *
        obtain ⟨N2, L3, e3⟩ := Y
        simp only at HT2 HNX HBAD hcl2
        go_wp2_with fail
        refine (unhide HT1 _ (unhide HD).rd).mono ?_
        rintro x w4 ⟨rfl, ht⟩
        have HOX := hide ((unhide HO).toldM (by decide) (unhide HD).rd ht)
        have HDX := hide ((unhide HD).told ht)
        clear ht HO HD HT1 r1
        have d0 := (unhide HDX).nd.cell0
        go_wp2_with fail
        refine (unhide HT2 _ (unhide HDX).rd).mono ?_
        rintro x w5 ⟨rfl, ht⟩
        have HOZ := hide ((unhide HOX).toldM (by decide) (unhide HDX).rd ht)
        have HDZ := hide ((unhide HDX).told ht)
        clear ht HOX HDX HT2 d0
        by_cases hbig : 4095 < N2
        · have hb' : (4095 : Int) < (N2 : Int) := by omega
          have HN2 : Hid (decodeN S = (nd0, 60)) := by
            show _ = _
            rw [unhide HDC, unhide HRN]
            exact if_neg (fun h => unhide HBAD (place_bad hbig hcl2 K1) h.2.2)
          have c0 := (unhide HDZ).res.cell0
          have c1 := (unhide HDZ).res.cell1
          have c2 := (unhide HDZ).res.cell2
          have f0 := (unhide HDZ).res.free 0
          have f1 := (unhide HDZ).res.free 1
          have f2 := (unhide HDZ).res.free 2
          clear hbig HBAD HDC HRN HNX
          go_wp2
          refine bodyPost_ret (v := .tuple #[.agg #[.bool false, .slice none 0 0, .slice none 0 0], .int .i64 60]) ?_ rfl ?_
          · rw [results_cell_tmp rfl]
            go_simp
          · rw [unhide HN2]
            exact dec_zero w _ _ rfl (below_store (below_store (below_store (unhide HDZ).bel p 0 _ hpw) p 1 _ hpw) p 2 _ hpw)
        · have hb' : ¬ (4095 : Int) < (N2 : Int) := by omega
          have hwN : wrap64 (N2 : Int) = (N2 : Int) := by unfold wrap64; omega
          rw [hwN] at HNX
          clear hbig HBAD hcl2
          have d2 := (unhide HDZ).nd.cell2
          have hBw : B ≤ w5.heap.size := (unhide HDZ).bz
          go_wp2_with (at_builtin; refine app_gen (news := [.string K1, .int .i64 (N2 : Int)]) Tryz.underlying36 info76 rfl (by decide) rfl _ _ rfl rfl rfl (unhide HOZ) hBw rfl ?_ ?_ ?_ ?_; (exact pair_one rfl); omega; omega; intro aC capC wC ho' hg' _; have HOC := hide (OwnE.snoc (sv := kv) (x := (K1, (N2 : Int))) ho'); have HDC2 := hide ((unhide HDZ).app (unhide HOZ) (by decide) (by decide) hg'); have mC := (unhide HDC2).nd.cell2; have fC := (unhide HDC2).nd.free 2; clear ho' hg')
          have HD9 := hide ((unhide HDC2).set2 aC (pre.length + 1) capC)
          have HO9 := hide ((unhide HOC).set (unhide HDC2).nd (by decide) 2 (.slice aC (pre.length + 1) capC))
          clear HDC2 HOC HDZ HOZ mC fC d2
          go_roundw
          case rel => exact ⟨i + 1, pre ++ [(K1, (N2 : Int))], L3, e3, aC, capC, by omega, by go_num, unhide HNX, by rw [List.length_append]; exact unhide HO9, by rw [List.length_append]; exact unhide HD9⟩
          case measure => simp [intOf]; omega
      · have HL := hide ((unhide HLat).err he)
        have f0' : ((e : Int) == 0) = false := beq_eq_false_iff_ne.2 (by omega)
        clear HLat
        have HN : Hid (decodeN S = if e = 0 ∧ L.size = 0 ∧ rightB ⟨false, [], pre⟩ = true then (⟨false, [], pre⟩, 0) else (nd0, 60)) := by
          show _ = _
          rw [unhide HDC, unhide HRN, unhide HL]
        clear HL HDC HRN
        go_wp2_with fail
        refine (refEnd_any g e L wr (unhide HD).rd).mono ?_
        rintro x w5 ⟨rfl, hw⟩
        have hw := hw.symm
        subst hw
        have c0 := (unhide HD).res.cell0
        have c1 := (unhide HD).res.cell1
        have c2 := (unhide HD).res.cell2
        have f0 := (unhide HD).res.free 0
        have f1 := (unhide HD).res.free 1
        have f2 := (unhide HD).res.free 2
        have d0 := (unhide HD).nd.cell0
        have d1 := (unhide HD).nd.cell1
        have d2 := (unhide HD).nd.cell2
        have e0 : endR L e ≠ 0 := by unfold endR; rw [if_pos he]; exact he
        have HN2 := hide ((unhide HN).trans (if_neg (fun h => he h.1)))
        generalize endR L e = E at *
        have g0 : ((E : Int) == 0) = false := beq_eq_false_iff_ne.2 (by omega)
        have g1 : ((E : Int) != 0) = true := bne_iff_ne.2 (by omega)
        clear he HN e0
        go_wp2
        refine bodyPost_ret (v := .tuple #[.agg #[.bool false, .slice none 0 0, .slice none 0 0], .int .i64 60]) ?_ rfl ?_
        · rw [results_cell_tmp rfl]
          go_simp
        · rw [unhide HN2]
          exact dec_zero w _ _ rfl (below_store (below_store (below_store (unhide HD).bel p 0 _ hpw) p 1 _ hpw) p 2 _ hpw)
    · obtain rfl : i = C := by omega
      have hd0 := unhide HLat
      rw [Nat.sub_self] at hd0
      have HL := hide hd0.done
      clear HLat hd0
      have HN : Hid (decodeN S = if e = 0 ∧ L.size = 0 ∧ rightB ⟨false, [], pre⟩ = true then (⟨false, [], pre⟩, 0) else (nd0, 60)) := by
        show _ = _
        rw [unhide HDC, unhide HRN, unhide HL]
      clear HL HDC HRN
      go_wp2_with fail
      refine (refEnd_any g e L wr (unhide HD).rd).mono ?_
      rintro x w5 ⟨rfl, hw⟩
      have hw := hw.symm
      subst hw
      have c0 := (unhide HD).res.cell0
      have c1 := (unhide HD).res.cell1
      have c2 := (unhide HD).res.cell2
      have f0 := (unhide HD).res.free 0
      have f1 := (unhide HD).res.free 1
      have f2 := (unhide HD).res.free 2
      have d0 := (unhide HD).nd.cell0
      have d1 := (unhide HD).nd.cell1
      have d2 := (unhide HD).nd.cell2
      by_cases hen : e = 0 ∧ L.size = 0
      · have e0 : endR L e = 0 := by unfold endR; rw [if_neg (by omega), if_pos hen.2]
        rw [e0]
        have HH : Hid (Has wr ⟨false, [], pre⟩ none a) := ⟨.inl rfl, (unhide HO).row⟩
        go_wp2_with fail
        refine (refRight_any ⟨false, [], pre⟩ none a 0 cap wr (unhide HH) (by show _ ≤ _; simp; try omega) (by show _ ≤ _; simp; try omega)).mono ?_
        rintro x w6 ⟨rfl, hb⟩
        have HB6 := hide (below_then (unhide HD).bel hb)
        have HH6 := hide ((unhide HH).grow hb)
        have HP6 := hide ((unhide HD).res.below hb)
        have c0 := cell_keep c0 hb
        have c1 := cell_keep c1 hb
        have c2 := cell_keep c2 hb
        have f0 := (unhide HP6).free 0
        have f1 := (unhide HP6).free 1
        have f2 := (unhide HP6).free 2
        have d0 := cell_keep d0 hb
        have d1 := cell_keep d1 hb
        have d2 := cell_keep d2 hb
        clear hb
        by_cases hri : rightB ⟨false, [], pre⟩ = true
        · have HN2 := hide ((unhide HN).trans (if_pos ⟨hen.1, hen.2, hri⟩))
          rw [hri]
          clear hri HN
          go_wp2
          have hst := (unhide HP6).store false none 0 0 a pre.length cap (unhide HH6)
          refine bodyPost_ret (v := .tuple #[.agg #[.bool false, .slice none 0 0, .slice a pre.length cap], .int .i64 0]) ?_ rfl ?_
          · rw [results_cell_tmp rfl]
            go_simp
          · rw [unhide HN2]
            exact ⟨none, a, 0, cap, rfl, hst.2, below_store (below_store (below_store (unhide HB6) p 0 _ hpw) p 1 _ hpw) p 2 _ hpw⟩
        · have hri : rightB ⟨false, [], pre⟩ = false := by simpa using hri
          have HN2 := hide ((unhide HN).trans (if_neg (fun h => by rw [hri] at h; simp at h)))
          rw [hri]
          clear hri HN
          go_wp2
          refine bodyPost_ret (v := .tuple #[.agg #[.bool false, .slice none 0 0, .slice none 0 0], .int .i64 60]) ?_ rfl ?_
          · rw [results_cell_tmp rfl]
            go_simp
          · rw [unhide HN2]
            exact dec_zero w _ _ rfl (below_store (below_store (below_store (unhide HB6) p 0 _ hpw) p 1 _ hpw) p 2 _ hpw)
      · have e0 : endR L e ≠ 0 := by
          unfold endR
          by_cases hx : e = 0
          · rw [if_neg (by omega), if_neg (fun h => hen ⟨hx, h⟩)]
            decide
          · rw [if_pos hx]
            exact hx
        have HN2 := hide ((unhide HN).trans (if_neg (fun h => hen ⟨h.1, h.2.1⟩)))
        generalize endR L e = E at *
        have g0 : ((E : Int) == 0) = false := beq_eq_false_iff_ne.2 (by omega)
        have g1 : ((E : Int) != 0) = true := bne_iff_ne.2 (by omega)
        clear hen HN e0
        go_wp2
        refine bodyPost_ret (v := .tuple #[.agg #[.bool false, .slice none 0 0, .slice none 0 0], .int .i64 60]) ?_ rfl ?_
        · rw [results_cell_tmp rfl]
          go_simp
        · rw [unhide HN2]
          exact dec_zero w _ _ rfl (below_store (below_store (below_store (unhide HD).bel p 0 _ hpw) p 1 _ hpw) p 2 _ hpw)
end Go.Proofs.YtdelobaiicoogaaGreatDoor.L6

/- Decode, as the document answers: leaves. -/
namespace Go.Proofs.YtdelobaiicoogaaGreatDoor.L6
open Go.ChangeShapes Go.WideShapes Go.ChangeAt Go.RowKit

set_option maxRecDepth 10000 in
set_option maxHeartbeats 8000000 in
theorem refDecode_items (S : ByteArray) (w : World) (h1 : S.size ≤ 1007) (h2 : (byteR S 0).1 = 1) (h3 : (shortR (byteR S 0).2.1 (byteR S 0).2.2).1 ≤ 1007) :
    Calls Tryz.prog 143 #[.string S] w fun x w' => DecSaid (decodeN S) w x w' := by
  have HDC := hide (refDec_in (S := S) (by omega))
  have HRN : Hid (readN S = (⟨true, (listR itemR (shortR (byteR S 0).2.1 (byteR S 0).2.2).1 (shortR (byteR S 0).2.1 (byteR S 0).2.2).2.1 (shortR (byteR S 0).2.1 (byteR S 0).2.2).2.2).1, []⟩, (listR itemR (shortR (byteR S 0).2.1 (byteR S 0).2.2).1 (shortR (byteR S 0).2.1 (byteR S 0).2.2).2.1 (shortR (byteR S 0).2.1 (byteR S 0).2.2).2.2).2)) := by
    show _ = _
    unfold readN
    rw [if_pos h2]
    rfl
  have hle := byteR_le S 0
  have hle2 := shortR_le (byteR S 0).2.1 (byteR S 0).2.2
  have hcl := shortR_lt (byteR S 0).2.1 (byteR S 0).2.2
  have HC1 := hide (fun W G (hW : Rm W G S 0) => refByte_any G 0 S W hW (by omega))
  have HC2 := hide (fun W G (hW : Rm W G (byteR S 0).2.1 (byteR S 0).2.2) => refShortR_any G _ _ W hW (by omega))
  have hb0 := below_alloc w (.cells #[.bool false, .slice none 0 0, .slice none 0 0] 38)
  have hb1 := below_alloc (w.alloc (.cells #[.bool false, .slice none 0 0, .slice none 0 0] 38)) (.cells #[.string S, .int .i64 0] 290)
  have hsz : (w.alloc (.cells #[.bool false, .slice none 0 0, .slice none 0 0] 38)).heap.size = w.heap.size + 1 := by simp
  have hrm := Rm.new (w.alloc (.cells #[.bool false, .slice none 0 0, .slice none 0 0] 38)) S
  rw [hsz] at hrm
  have HP := hide ((Nblk.new w false none none 0 0 0 0).below hb1)
  have HR := hide hrm
  have HB := hide (below_then hb0 hb1)
  clear hb0 hb1 hsz hrm
  go_enter Tryz.func143, Tryz.ntmps143
  go_wp2_with fail
  obtain ⟨p, hp⟩ : ∃ y, y = w.heap.size := ⟨_, rfl⟩
  rw [← hp] at HP HR ⊢
  have hpw : w.heap.size ≤ p := Nat.le_of_eq hp.symm
  clear hp
  obtain ⟨g, hg⟩ : ∃ y, y = p + 1 := ⟨_, rfl⟩
  rw [← hg] at HR ⊢
  have hgw : w.heap.size ≤ g := by omega
  have hpg : p ≠ g := by omega
  clear hg
  generalize (w.alloc (.cells #[.bool false, .slice none 0 0, .slice none 0 0] 38)).alloc (.cells #[.string S, .int .i64 0] 290) = w1 at *
  refine (unhide HC1 _ g (unhide HR)).mono ?_
  rintro x w2 ⟨rfl, ht⟩
  have HP := hide ((unhide HP).toldM ht hpg)
  have HR := hide ht.2
  have HB := hide ((unhide HB).grown ht.1 (unhide HB).size (fun k hk => by injection hk with hk; omega))
  clear ht HC1
  generalize byteR S 0 = T at *
  go_wp2_with fail
  refine (unhide HC2 _ g (unhide HR)).mono ?_
  rintro x w3 ⟨rfl, ht⟩
  have HP := hide ((unhide HP).toldM ht hpg)
  have HR := hide ht.2
  have HB := hide ((unhide HB).grown ht.1 (unhide HB).size (fun k hk => by injection hk with hk; omega))
  clear ht HC2
  generalize shortR T.2.1 T.2.2 = U at *
  have g1 : ((T.1 : Int) == 1) = true := beq_iff_eq.2 (by omega)
  have g2 : ((T.1 : Int) != 1) = false := by rw [bne, g1]; rfl
  have k1 : ¬ (1007 : Int) < (S.size : Int) := by omega
  have k3 : ¬ (1007 : Int) < (U.1 : Int) := by omega
  obtain ⟨C, L1, e1⟩ := U
  simp only at h3 hle2 hcl HRN k3 HR ⊢
  have hL1 : L1.size ≤ 1007 := by omega
  clear h2
  go_wp2_with fail
  have HQ := hide (Nblk.new w3 true none none 0 0 0 0)
  have hbq := below_alloc w3 (.cells #[.bool true, .slice none 0 0, .slice none 0 0] 38)
  obtain ⟨q, hq⟩ : ∃ y, y = w3.heap.size := ⟨_, rfl⟩
  have hqw : w.heap.size ≤ q := by have := (unhide HB).size; omega
  have hpq : p ≠ q := by have := (unhide HP).lt; omega
  rw [← hq] at HQ ⊢
  clear hq
  have HD0 : Hid (Dst w p g q (w3.alloc (.cells #[.bool true, .slice none 0 0, .slice none 0 0] 38)).heap.size (w3.alloc (.cells #[.bool true, .slice none 0 0, .slice none 0 0] 38)) L1 e1 true none 0 0 none 0 0) :=
    ⟨below_then (unhide HB) hbq, (unhide HP).below hbq, (unhide HR).below hbq, unhide HQ, hpq, hpw, hgw, hqw, Nat.le_trans (unhide HB).size hbq.size, Nat.le_refl _⟩
  generalize w3.alloc (.cells #[.bool true, .slice none 0 0, .slice none 0 0] 38) = wq at *
  obtain ⟨B, hB⟩ : ∃ y, y = wq.heap.size := ⟨_, rfl⟩
  rw [← hB] at HD0
  clear hB HQ hbq HP HR HB hpq
  have hwC : wrap64 (C : Int) = (C : Int) := by unfold wrap64; omega
  go_wp2
  go_loopw [8] (fun t wr => ∃ (i : Nat) (pre : List It) (L : ByteArray) (e : Nat) (a : Option Addr) (cap : Nat), i ≤ C ∧ t = .int .i64 i ∧ Lat itemR C L1 e1 pre (C - i) L e ∧ OwnE Value.string 58 B wr (.slice a pre.length cap) pre ∧ Dst w p g q B wr L e true a pre.length cap none 0 0) (fun t _ => C - (intOf t).toNat)
  case atStart => exact ⟨0, [], L1, e1, none, 0, Nat.zero_le _, rfl, Lat.start _ _ _ _, OwnE.nil _ _ _ _, unhide HD0⟩
  case round =>
    clear HD0
    obtain ⟨i, pre, L, e, a, cap, hi, rfl, hlat, hown, hd⟩ := hrel
    have hsz := hlat.less
    have HLat := hide hlat
    have HO := hide hown
    have HD := hide hd
    have r1 := hd.rd.cell1
    have hpl : pre.length ≤ 2000 := by
      have h := listR_len (f := itemR) itemR_lt C L1 e1
      rw [hlat.same, List.length_append] at h
      omega
    clear hlat hown hd
    by_cases hlt : i < C
    · have v4 : (i : Int) < (C : Int) := by omega
      by_cases he : e = 0
      · subst he
        obtain ⟨c', hc'⟩ : ∃ c', C - i = c' + 1 := ⟨C - i - 1, by omega⟩
        have hnx := unhide HLat
        rw [hc'] at hnx
        have hc2 : c' = C - (i + 1) := by omega
        have hnx2 := hnx.next itemR_le itemR_lt
        rw [hc2] at hnx2
        have HNX := hide hnx2
        clear hnx hnx2 hc2 hc'
        have HT1 := hide (fun W (hW : Rm W g L 0) => refTextR_any g 0 L 272 W hW (by omega) (by omega))
        have hle3 := textR_le L 0 272
        have HT2 := hide (fun W (hW : Rm W g (textR L 0 272).2.1 (textR L 0 272).2.2) => refTextR_any g _ _ 160 W hW (by omega) (by omega))
        have e1' : (itemR L 0).1 = ((textR L 0 272).1, (textR (textR L 0 272).2.1 (textR L 0 272).2.2 160).1) := rfl
        have e2' : (itemR L 0).2 = ((textR (textR L 0 272).2.1 (textR L 0 272).2.2 160).2.1, (textR (textR L 0 272).2.1 (textR L 0 272).2.2 160).2.2) := rfl
        rw [e1', e2'] at HNX
        clear e1' e2' hle3
        generalize textR L 0 272 = X at *
        obtain ⟨K1, L2, e2⟩ := X
        simp only at HT1 HT2 HNX
        generalize textR L2 e2 160 = Y at *
        obtain ⟨K2, L3, e3⟩ := Y
        simp only at HT2 HNX
        go_wp2_with fail
        refine (unhide HT1 _ (unhide HD).rd).mono ?_
        rintro x w4 ⟨rfl, ht⟩
        have HOX := (unhide HO).toldM (by decide) (unhide HD).rd ht
        have HDX := (unhide HD).told ht
        clear ht HO HD HT1 r1
        have HOY := hide HOX
        have HDY := hide HDX
        have d0 := HDX.nd.cell0
        have d1 := HDX.nd.cell1
        clear HOX HDX
        go_wp2_with fail
        have HOX := (unhide HOY).below (below_drew _)
        have HDX := (unhide HDY).grow (below_drew _)
        clear HOY HDY d0
        refine wp_region_noPanic ?_
        refine wp_region_held_drew (S := fun _ => True) (by kernel_rfl) trivial (fun hHeld => ?_)
        refine takeY 0 (some 48) ?_ rfl rfl (by kernel_rfl) (by kernel_rfl) (by kernel_rfl) (fun _ _ _ h => h) (by rfl) ?_ hHeld ?_
        rotate_left
        · intro w hSw; (try dsimp only at hSw); go_simp <;> with_reducible rfl
        simp only [Act.put, List.setIfInBounds_toArray, List.set_cons_zero, List.set_cons_succ]
        refine takeY 2 (some 50) ?_ rfl rfl (by kernel_rfl) (by kernel_rfl) (by kernel_rfl) (fun _ _ _ h => h) (by rfl) ?_ hHeld ?_
        rotate_left
        · intro w hSw; (try dsimp only at hSw); go_simp <;> with_reducible rfl
        simp only [Act.put, List.setIfInBounds_toArray, List.set_cons_zero, List.set_cons_succ]
        refine wpAnyH_ready (rs := [1, 3]) (by kernel_rfl) (by simp) ?_
        refine AllReadyH.cons rfl (fun K hK => ?_) (AllReadyH.cons rfl (fun K hK => ?_) AllReadyH.nil)
        · go_simp
          refine hK.out _ _ trivial (fun hHeld => ?_)
          clear hK K
          try simp only [Act.put, List.setIfInBounds_toArray, List.set_cons_zero, List.set_cons_succ]
          refine wpAnyH_ready (rs := [3]) (by kernel_rfl) (by simp) ?_
          refine AllReadyH.cons rfl (fun K hK => ?_) AllReadyH.nil
          go_simp
          refine (unhide HT2 _ HDX.rd).mono ?_
          rintro x wB ⟨rfl, ht⟩
          have HOB := hide (HOX.toldM (by decide) HDX.rd ht)
          have HDB := hide (HDX.told ht)
          have m1 := (unhide HDB).nd.cell1
          have TM : ∀ o, (wB.alloc o).cell? ⟨q, 1, none⟩ = some (.slice a pre.length cap) := fun o => cell_keep m1 (below_alloc wB o)
          clear ht
          refine hK.out _ _ trivial (fun hHeld => ?_)
          clear hK K
          try simp only [Act.put, List.setIfInBounds_toArray, List.set_cons_zero, List.set_cons_succ]
          refine takeY 4 (some 52) ?_ rfl rfl (by kernel_rfl) (by kernel_rfl) (by kernel_rfl) (fun _ _ _ h => h) (by rfl) ?_ hHeld ?_
          rotate_left
          · intro w hSw; (try dsimp only at hSw); go_simp <;> with_reducible rfl
          simp only [Act.put, List.setIfInBounds_toArray, List.set_cons_zero, List.set_cons_succ]
          refine wpAnyH_ready (rs := [5]) (by kernel_rfl) (by simp) ?_
          refine AllReadyH.cons rfl (fun K hK => ?_) AllReadyH.nil
          go_simp
          refine hK.out _ _ trivial (fun hHeld => ?_)
          clear hK K
          try simp only [Act.put, List.setIfInBounds_toArray, List.set_cons_zero, List.set_cons_succ]
          refine wpAnyH_ready (rs := [6]) (by kernel_rfl) (by simp) ?_
          refine AllReadyH.cons rfl (fun K hK => ?_) AllReadyH.nil
          refine step_gen (wr := wB) (v := .slice a pre.length cap) (n := pre.length) (news := [.string K1, .string K2]) rfl Tryz.underlying35 info58 rfl (by decide) _ _ rfl rfl rfl (unhide HOB) (unhide HDB).bz rfl (pair_one rfl) (by omega) (by omega) ?_
          intro aC capC wC hownC hgC _
          have HOC := hide (OwnE.snoc (sv := Value.string) (x := (K1, K2)) hownC)
          have HDC2 := hide ((unhide HDB).app (unhide HOB) (by decide) (by decide) hgC)
          have mC := (unhide HDC2).nd.cell1
          have fC := (unhide HDC2).nd.free 1
          clear hownC hgC
          refine hK.out _ _ trivial (fun hHeld => ?_)
          clear hK K
          try simp only [Act.put, List.setIfInBounds_toArray]
          refine takeY 7 (some 55) ?_ rfl rfl (by kernel_rfl) (by kernel_rfl) (by kernel_rfl) (fun _ _ _ h => h) (by rfl) ?_ hHeld ?_
          rotate_left
          · intro w hSw; (try dsimp only at hSw); go_simp <;> with_reducible rfl
          simp only [Act.put]
          refine wpAnyH_ready (rs := [8]) (by kernel_rfl) (by simp) ?_
          refine AllReadyH.cons rfl (fun K hK => ?_) AllReadyH.nil
          go_simp
          refine hK.out _ _ trivial (fun hHeld => ?_)
          clear hK K
          try simp only [Act.put]
          refine wpAnyH_done (by kernel_rfl) ?_ _
          refine NoPanic.normal ?_
          have HD9 := hide ((unhide HDC2).set1 aC (pre.length + 1) capC)
          have HO9 := hide ((unhide HOC).set (unhide HDC2).nd (by decide) 1 (.slice aC (pre.length + 1) capC))
          clear HDC2 HOC HDB HOB mC fC m1
          go_wp2
          go_roundw
          case rel => exact ⟨i + 1, pre ++ [(K1, K2)], L3, e3, aC, capC, by omega, by go_num, unhide HNX, by rw [List.length_append]; exact unhide HO9, by rw [List.length_append]; exact unhide HD9⟩
          case measure => simp [intOf]; omega
        · go_simp
          refine (unhide HT2 _ HDX.rd).mono ?_
          rintro x wB ⟨rfl, ht⟩
          have HOB := hide (HOX.toldM (by decide) HDX.rd ht)
          have HDB := hide (HDX.told ht)
          have m1 := (unhide HDB).nd.cell1
          have TM : ∀ o, (wB.alloc o).cell? ⟨q, 1, none⟩ = some (.slice a pre.length cap) := fun o => cell_keep m1 (below_alloc wB o)
          clear ht
          refine hK.out _ _ trivial (fun hHeld => ?_)
          clear hK K
          try simp only [Act.put, List.setIfInBounds_toArray, List.set_cons_zero, List.set_cons_succ]
          refine takeY 4 (some 52) ?_ rfl rfl (by kernel_rfl) (by kernel_rfl) (by kernel_rfl) (fun _ _ _ h => h) (by rfl) ?_ hHeld ?_
          rotate_left
          · intro w hSw; (try dsimp only at hSw); go_simp <;> with_reducible rfl
          simp only [Act.put, List.setIfInBounds_toArray, List.set_cons_zero, List.set_cons_succ]
          refine wpAnyH_ready (rs := [1, 5]) (by kernel_rfl) (by simp) ?_
          refine AllReadyH.cons rfl (fun K hK => ?_) (AllReadyH.cons rfl (fun K hK => ?_) AllReadyH.nil)
          · go_simp
            refine hK.out _ _ trivial (fun hHeld => ?_)
            clear hK K
            try simp only [Act.put, List.setIfInBounds_toArray, List.set_cons_zero, List.set_cons_succ]
            refine wpAnyH_ready (rs := [5]) (by kernel_rfl) (by simp) ?_
            refine AllReadyH.cons rfl (fun K hK => ?_) AllReadyH.nil
            go_simp
            refine hK.out _ _ trivial (fun hHeld => ?_)
            clear hK K
            try simp only [Act.put, List.setIfInBounds_toArray, List.set_cons_zero, List.set_cons_succ]
            refine wpAnyH_ready (rs := [6]) (by kernel_rfl) (by simp) ?_
            refine AllReadyH.cons rfl (fun K hK => ?_) AllReadyH.nil
            refine step_gen (wr := wB) (v := .slice a pre.length cap) (n := pre.length) (news := [.string K1, .string K2]) rfl Tryz.underlying35 info58 rfl (by decide) _ _ rfl rfl rfl (unhide HOB) (unhide HDB).bz rfl (pair_one rfl) (by omega) (by omega) ?_
            intro aC capC wC hownC hgC _
            have HOC := hide (OwnE.snoc (sv := Value.string) (x := (K1, K2)) hownC)
            have HDC2 := hide ((unhide HDB).app (unhide HOB) (by decide) (by decide) hgC)
            have mC := (unhide HDC2).nd.cell1
            have fC := (unhide HDC2).nd.free 1
            clear hownC hgC
            refine hK.out _ _ trivial (fun hHeld => ?_)
            clear hK K
            try simp only [Act.put, List.setIfInBounds_toArray]
            refine takeY 7 (some 55) ?_ rfl rfl (by kernel_rfl) (by kernel_rfl) (by kernel_rfl) (fun _ _ _ h => h) (by rfl) ?_ hHeld ?_
            rotate_left
            · intro w hSw; (try dsimp only at hSw); go_simp <;> with_reducible rfl
            simp only [Act.put]
            refine wpAnyH_ready (rs := [8]) (by kernel_rfl) (by simp) ?_
            refine AllReadyH.cons rfl (fun K hK => ?_) AllReadyH.nil
            go_simp
            refine hK.out _ _ trivial (fun hHeld => ?_)
            clear hK K
            try simp only [Act.put]
            refine wpAnyH_done (by kernel_rfl) ?_ _
            refine NoPanic.normal ?_
            have HD9 := hide ((unhide HDC2).set1 aC (pre.length + 1) capC)
            have HO9 := hide ((unhide HOC).set (unhide HDC2).nd (by decide) 1 (.slice aC (pre.length + 1) capC))
            clear HDC2 HOC HDB HOB mC fC m1
            go_wp2
            go_roundw
            case rel => exact ⟨i + 1, pre ++ [(K1, K2)], L3, e3, aC, capC, by omega, by go_num, unhide HNX, by rw [List.length_append]; exact unhide HO9, by rw [List.length_append]; exact unhide HD9⟩
            case measure => simp [intOf]; omega
          · go_simp
            refine hK.out _ _ trivial (fun hHeld => ?_)
            clear hK K
            try simp only [Act.put, List.setIfInBounds_toArray, List.set_cons_zero, List.set_cons_succ]
            refine wpAnyH_ready (rs := [1]) (by kernel_rfl) (by simp) ?_
            refine AllReadyH.cons rfl (fun K hK => ?_) AllReadyH.nil
            go_simp
            refine hK.out _ _ trivial (fun hHeld => ?_)
            clear hK K
            try simp only [Act.put, List.setIfInBounds_toArray, List.set_cons_zero, List.set_cons_succ]
            refine wpAnyH_ready (rs := [6]) (by kernel_rfl) (by simp) ?_
            refine AllReadyH.cons rfl (fun K hK => ?_) AllReadyH.nil
            refine step_gen (wr := wB) (v := .slice a pre.length cap) (n := pre.length) (news := [.string K1, .string K2]) rfl Tryz.underlying35 info58 rfl (by decide) _ _ rfl rfl rfl (unhide HOB) (unhide HDB).bz rfl (pair_one rfl) (by omega) (by omega) ?_
            intro aC capC wC hownC hgC _
            have HOC := hide (OwnE.snoc (sv := Value.string) (x := (K1, K2)) hownC)
            have HDC2 := hide ((unhide HDB).app (unhide HOB) (by decide) (by decide) hgC)
            have mC := (unhide HDC2).nd.cell1
            have fC := (unhide HDC2).nd.free 1
            clear hownC hgC
            refine hK.out _ _ trivial (fun hHeld => ?_)
            clear hK K
            try simp only [Act.put, List.setIfInBounds_toArray]
            refine takeY 7 (some 55) ?_ rfl rfl (by kernel_rfl) (by kernel_rfl) (by kernel_rfl) (fun _ _ _ h => h) (by rfl) ?_ hHeld ?_
            rotate_left
            · intro w hSw; (try dsimp only at hSw); go_simp <;> with_reducible rfl
            simp only [Act.put]
            refine wpAnyH_ready (rs := [8]) (by kernel_rfl) (by simp) ?_
            refine AllReadyH.cons rfl (fun K hK => ?_) AllReadyH.nil
            go_simp
            refine hK.out _ _ trivial (fun hHeld => ?_)
            clear hK K
            try simp only [Act.put]
            refine wpAnyH_done (by kernel_rfl) ?_ _
            refine NoPanic.normal ?_
            have HD9 := hide ((unhide HDC2).set1 aC (pre.length + 1) capC)
            have HO9 := hide ((unhide HOC).set (unhide HDC2).nd (by decide) 1 (.slice aC (pre.length + 1) capC))
            clear HDC2 HOC HDB HOB mC fC m1
            go_wp2
            go_roundw
            case rel => exact ⟨i + 1, pre ++ [(K1, K2)], L3, e3, aC, capC, by omega, by go_num, unhide HNX, by rw [List.length_append]; exact unhide HO9, by rw [List.length_append]; exact unhide HD9⟩
            case measure => simp [intOf]; omega
      · have HL := hide ((unhide HLat).err he)
        have f0' : ((e : Int) == 0) = false := beq_eq_false_iff_ne.2 (by omega)
        clear HLat
        have HN : Hid (decodeN S = if e = 0 ∧ L.size = 0 ∧ rightB ⟨true, pre, []⟩ = true then (⟨true, pre, []⟩, 0) else (nd0, 60)) := by
          show _ = _
          rw [unhide HDC, unhide HRN, unhide HL]
        clear HL HDC HRN
        go_wp2_with fail
        refine (refEnd_any g e L wr (unhide HD).rd).mono ?_
        rintro x w5 ⟨rfl, hw⟩
        have hw := hw.symm
        subst hw
        have c0 := (unhide HD).res.cell0
        have c1 := (unhide HD).res.cell1
        have c2 := (unhide HD).res.cell2
        have f0 := (unhide HD).res.free 0
        have f1 := (unhide HD).res.free 1
        have f2 := (unhide HD).res.free 2
        have d0 := (unhide HD).nd.cell0
        have d1 := (unhide HD).nd.cell1
        have d2 := (unhide HD).nd.cell2
        have e0 : endR L e ≠ 0 := by unfold endR; rw [if_pos he]; exact he
        have HN2 := hide ((unhide HN).trans (if_neg (fun h => he h.1)))
        generalize endR L e = E at *
        have g0 : ((E : Int) == 0) = false := beq_eq_false_iff_ne.2 (by omega)
        have g1 : ((E : Int) != 0) = true := bne_iff_ne.2 (by omega)
        clear he HN e0
        go_wp2
        refine bodyPost_ret (v := .tuple #[.agg #[.bool false, .slice none 0 0, .slice none 0 0], .int .i64 60]) ?_ rfl ?_
        · rw [results_cell_tmp rfl]
          go_simp
        · rw [unhide HN2]
          exact dec_zero w _ _ rfl (below_store (below_store (below_store (unhide HD).bel p 0 _ hpw) p 1 _ hpw) p 2 _ hpw)
    · obtain rfl : i = C := by omega
      have hd0 := unhide HLat
      rw [Nat.sub_self] at hd0
      have HL := hide hd0.done
      clear HLat hd0
      have HN : Hid (decodeN S = if e = 0 ∧ L.size = 0 ∧ rightB ⟨true, pre, []⟩ = true then (⟨true, pre, []⟩, 0) else (nd0, 60)) := by
        show _ = _
        rw [unhide HDC, unhide HRN, unhide HL]
      clear HL HDC HRN
      go_wp2_with fail
      refine (refEnd_any g e L wr (unhide HD).rd).mono ?_
      rintro x w5 ⟨rfl, hw⟩
      have hw := hw.symm
      subst hw
      have c0 := (unhide HD).res.cell0
      have c1 := (unhide HD).res.cell1
      have c2 := (unhide HD).res.cell2
      have f0 := (unhide HD).res.free 0
      have f1 := (unhide HD).res.free 1
      have f2 := (unhide HD).res.free 2
      have d0 := (unhide HD).nd.cell0
      have d1 := (unhide HD).nd.cell1
      have d2 := (unhide HD).nd.cell2
      by_cases hen : e = 0 ∧ L.size = 0
      · have e0 : endR L e = 0 := by unfold endR; rw [if_neg (by omega), if_pos hen.2]
        rw [e0]
        have HH : Hid (Has wr ⟨true, pre, []⟩ a none) := ⟨(unhide HO).row, .inl rfl⟩
        go_wp2_with fail
        refine (refRight_any ⟨true, pre, []⟩ a none cap 0 wr (unhide HH) (by show _ ≤ _; simp; try omega) (by show _ ≤ _; simp; try omega)).mono ?_
        rintro x w6 ⟨rfl, hb⟩
        have HB6 := hide (below_then (unhide HD).bel hb)
        have HH6 := hide ((unhide HH).grow hb)
        have HP6 := hide ((unhide HD).res.below hb)
        have c0 := cell_keep c0 hb
        have c1 := cell_keep c1 hb
        have c2 := cell_keep c2 hb
        have f0 := (unhide HP6).free 0
        have f1 := (unhide HP6).free 1
        have f2 := (unhide HP6).free 2
        have d0 := cell_keep d0 hb
        have d1 := cell_keep d1 hb
        have d2 := cell_keep d2 hb
        clear hb
        by_cases hri : rightB ⟨true, pre, []⟩ = true
        · have HN2 := hide ((unhide HN).trans (if_pos ⟨hen.1, hen.2, hri⟩))
          rw [hri]
          clear hri HN
          go_wp2
          have hst := (unhide HP6).store true a pre.length cap none 0 0 (unhide HH6)
          refine bodyPost_ret (v := .tuple #[.agg #[.bool true, .slice a pre.length cap, .slice none 0 0], .int .i64 0]) ?_ rfl ?_
          · rw [results_cell_tmp rfl]
            go_simp
          · rw [unhide HN2]
            exact ⟨a, none, cap, 0, rfl, hst.2, below_store (below_store (below_store (unhide HB6) p 0 _ hpw) p 1 _ hpw) p 2 _ hpw⟩
        · have hri : rightB ⟨true, pre, []⟩ = false := by simpa using hri
          have HN2 := hide ((unhide HN).trans (if_neg (fun h => by rw [hri] at h; simp at h)))
          rw [hri]
          clear hri HN
          go_wp2
          refine bodyPost_ret (v := .tuple #[.agg #[.bool false, .slice none 0 0, .slice none 0 0], .int .i64 60]) ?_ rfl ?_
          · rw [results_cell_tmp rfl]
            go_simp
          · rw [unhide HN2]
            exact dec_zero w _ _ rfl (below_store (below_store (below_store (unhide HB6) p 0 _ hpw) p 1 _ hpw) p 2 _ hpw)
      · have e0 : endR L e ≠ 0 := by
          unfold endR
          by_cases hx : e = 0
          · rw [if_neg (by omega), if_neg (fun h => hen ⟨hx, h⟩)]
            decide
          · rw [if_pos hx]
            exact hx
        have HN2 := hide ((unhide HN).trans (if_neg (fun h => hen ⟨h.1, h.2.1⟩)))
        generalize endR L e = E at *
        have g0 : ((E : Int) == 0) = false := beq_eq_false_iff_ne.2 (by omega)
        have g1 : ((E : Int) != 0) = true := bne_iff_ne.2 (by omega)
        clear hen HN e0
        go_wp2
        refine bodyPost_ret (v := .tuple #[.agg #[.bool false, .slice none 0 0, .slice none 0 0], .int .i64 60]) ?_ rfl ?_
        · rw [results_cell_tmp rfl]
          go_simp
        · rw [unhide HN2]
          exact dec_zero w _ _ rfl (below_store (below_store (below_store (unhide HD).bel p 0 _ hpw) p 1 _ hpw) p 2 _ hpw)
end Go.Proofs.YtdelobaiicoogaaGreatDoor.L6
