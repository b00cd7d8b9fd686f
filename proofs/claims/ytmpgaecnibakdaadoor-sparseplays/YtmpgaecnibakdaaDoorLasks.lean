/- The walk of the law SparseAsks. -/
import Derived.Test.YtmpgaecnibakdaaDoorFrame
namespace Go.Proofs.YtmpgaecnibakdaaDoor
open Go.ChangeShapes Go.WideShapes Go.ChangeAt Go.RowKit
attribute [local go_sem] Oper.semAt_some

theorem OwnP.most {B : Nat} {w : World} {v : Value} {l : List Pc} (h : OwnP B w v l) : l.length ≤ 9223372036854775807 := by
  rcases h.2 with ⟨hv, h0⟩ | ⟨g, c, cur, hv, _, _, hn, hm, _⟩
  · rw [h0]; exact Nat.zero_le _
  · unfold maxLen at hm
    omega
abbrev StepIn (w : World) (q : Nat) (s : Stp) : Prop := w.cell? ⟨q, 0, none⟩ = some (.int .i64 s.k) ∧ w.cell? ⟨q, 1, none⟩ = some (.int .i64 s.o) ∧ w.cell? ⟨q, 2, none⟩ = some (.int .i64 s.n) ∧ w.cell? ⟨q, 3, none⟩ = some (.string (tx s.d))

set_option maxHeartbeats 16000000 in
set_option maxRecDepth 10000 in
theorem asks_walk (l : List Pc) (a : Option Addr) (cap : Nat) (size : Int) (s : Stp) (w : World) (hr : Ps w a l) (hl : l.length ≤ 9223372036854775807) (hs : s.Ok) :
    Calls Tryd.prog 3 #[.slice a l.length cap, .int .i64 size, .agg #[.int .i64 s.k, .int .i64 s.o, .int .i64 s.n, .string (tx s.d)]] w fun e w' => e = .returned (.bool true) ∧ Below w.heap.size w w' := by
  have ho2 := hs.o.2
  have hn2 := hs.n.2
  clear hs
  have HA := hide (fun W => awake_any W)
  have b0 := b_alloc w (.cells #[.int .i64 s.k, .int .i64 s.o, .int .i64 s.n, .string (tx s.d)] 24)
  have n0 := heap_alloc_new w (.cells #[.int .i64 s.k, .int .i64 s.o, .int .i64 s.n, .string (tx s.d)] 24)
  have hr0 := hr.below b0
  have HBW := hide b0
  generalize hW : w.alloc (.cells #[.int .i64 s.k, .int .i64 s.o, .int .i64 s.n, .string (tx s.d)] 24) = w0 at *
  obtain ⟨q, hq⟩ : ∃ q, q = w.heap.size := ⟨_, rfl⟩
  have hin : StepIn w0 q s := by
    rw [hq]
    exact ⟨(cell_of_row w0 _ 0 _ _ _ n0).trans rfl, (cell_of_row w0 _ 1 _ _ _ n0).trans rfl, (cell_of_row w0 _ 2 _ _ _ n0).trans rfl, (cell_of_row w0 _ 3 _ _ _ n0).trans rfl⟩
  have KS : Hid (∀ W, Below w0.heap.size w0 W → StepIn W q s) := fun W hW => ⟨cell_keep hin.1 hW, cell_keep hin.2.1 hW, cell_keep hin.2.2.1 hW, cell_keep hin.2.2.2 hW⟩
  have HL := hide hr0
  have HG := hide (fun W (hW : Below w0.heap.size w0 W) => great_any a cap l W (hr0.below hW) hl)
  clear hr b0 n0 hin
  by_cases hg : greatB l = true
  · rw [hg] at HG
    clear hg HL hr0
    have HB0 := hide (Below.refl w0.heap.size w0)
    go_enter Tryd.func3, Tryd.ntmps3
    go_wp2_with fail
    rw [← hq]
    clear hW hq
    refine (unhide HA _).mono ?_
    rintro e w1 ⟨rfl, hb⟩
    have HB1 := hide hb
    obtain ⟨c0, c1, c2, c3⟩ := unhide KS _ hb
    clear hb HA
    go_wp2_with fail
    refine (unhide HG _ (unhide HB1)).mono ?_
    rintro e w1 ⟨rfl, rfl⟩
    go_wp2
    go_ret
    exact ⟨rfl, below_then (unhide HBW) (unhide HB1)⟩
  obtain ⟨hl2, hd⟩ := great_no hg
  rw [Bool.not_eq_true] at hg
  rw [hg] at HG
  clear hg hl
  by_cases g0 : (8192 : Int) < ((tx s.d).size : Int)
  · clear HL hr0
    have HB0 := hide (Below.refl w0.heap.size w0)
    go_enter Tryd.func3, Tryd.ntmps3
    go_wp2_with fail
    rw [← hq]
    clear hW hq
    refine (unhide HA _).mono ?_
    rintro e w1 ⟨rfl, hb⟩
    have HB1 := hide hb
    obtain ⟨c0, c1, c2, c3⟩ := unhide KS _ hb
    clear hb HA
    go_wp2_with fail
    refine (unhide HG _ (unhide HB1)).mono ?_
    rintro e w1 ⟨rfl, rfl⟩
    go_wp2
    go_ret
    exact ⟨rfl, below_then (unhide HBW) (unhide HB1)⟩
  have hsz := tx_size s.d
  have hdd : ∀ p ∈ l, p.2.length ≤ 10000 := fun p hp => by have := hd p hp; omega
  have hdm : ∀ p ∈ l, p.2.length ≤ 1000000 := fun p hp => by have := hd p hp; omega
  have HO := hide (fun W (hW : Below w0.heap.size w0 W) => own_any a cap l W (hr0.below hW) (by omega))
  have HR := hide (fun W A C (hW : Ps W A l) (hC : l.length ≤ C) => read_any A C l size s.o s.n W hW hC (by omega) hdm ho2)
  have HRd := hide (fun W (hW : Below w0.heap.size w0 W) => readD_any a cap l size s.o s.n W (hr0.below hW) (by omega) hdm ho2)
  have HW := hide (fun W A C (hW : Ps W A l) (hC : l.length ≤ C) => write_any A C l size s.o s.d W hW hC (by omega) hdd ho2 (by omega))
  have HWd := hide (fun W (hW : Below w0.heap.size w0 W) => writeD_any a cap l size s.o s.d W (hr0.below hW) (by omega) hdd ho2 (by omega))
  have HC := hide (fun W A C (hW : Ps W A l) => chk_any A C l size W hW (by omega) hdm)
  have HCd := hide (fun W (hW : Below w0.heap.size w0 W) => chkD_any a cap l size W (hr0.below hW) (by omega) hdm)
  have HT := hide (fun W A C (hW : Ps W A l) (hC : l.length ≤ C) => trunc_any A C l size s.n W hW hC (by omega) hdd)
  have HTd := hide (fun W (hW : Below w0.heap.size w0 W) => truncD_any a cap l size s.n W (hr0.below hW) (by omega) hdd)
  have HP := hide (fun W A C (hW : Ps W A l) (hC : l.length ≤ C) => punch_any A C l size s.o s.n W hW hC (by omega) hdd ho2 hn2)
  have HPd := hide (fun W (hW : Below w0.heap.size w0 W) => punchD_any a cap l size s.o s.n W (hr0.below hW) (by omega) hdd ho2 hn2)
  have HN := hide (fun W A C (hW : Ps W A l) => ranges_any A C l size W hW (by omega) hdd)
  have HNd := hide (fun W (hW : Below w0.heap.size w0 W) => rangesD_any a cap l size W (hr0.below hW) (by omega) hdd)
  have HS := hide (fun L A A' C C' W hA hA' hm => same_self A A' C C' L W hA hA' hm)
  have hrl : (rngA l size).1.length ≤ 200 := by
    unfold rngA
    split
    · simp
    · have := rngR_len l size
      simp only
      omega
  unfold textA at HR HRd
  unfold Ans3 at HW HWd HT HTd
  unfold Ans2 at HP HPd
  unfold AnsR at HN HNd
  generalize readA l size s.o s.n = XR at *
  generalize writeA l size s.o s.d = XW at *
  generalize truncA l size s.n = XT at *
  generalize punchA l size s.o s.n = XP at *
  generalize rngA l size = XN at *
  generalize chkR l size = XC at *
  have htx := str_eq (tx XR.1)
  obtain ⟨xt, xe⟩ := XR
  obtain ⟨wl, wm, we⟩ := XW
  obtain ⟨tl, tm, te⟩ := XT
  obtain ⟨pl, pe⟩ := XP
  obtain ⟨nl, ne⟩ := XN
  simp only at HR HRd HW HWd HT HTd HP HPd HN HNd htx hrl
  have HRL := hide hrl
  clear hr0 HL hd hdd hdm hsz hl2 hrl
  have HB0 := hide (Below.refl w0.heap.size w0)
  go_enter Tryd.func3, Tryd.ntmps3
  go_wp2_with fail
  rw [← hq]
  clear hW hq
  go_wp2_with fail
  refine (unhide HA _).mono ?_
  rintro e w1 ⟨rfl, hb⟩
  have HB1 := hide (below_then (unhide HB0) hb)
  clear hb HB0 
  obtain ⟨c0, c1, c2, c3⟩ := unhide KS _ (unhide HB1)
  go_wp2_with fail
  refine (unhide HG _ (unhide HB1)).mono ?_
  rintro e w1 ⟨rfl, rfl⟩
  go_wp2
  clear c0 c1 c2 c3
  have HBd := hide ((unhide HB1).drew)
  have S0 := hide (unhide KS _ (unhide HBd))
  go_wp2
  go_region_held3 (fun w' => w'.cell? ⟨q, 0, none⟩ = some (.int .i64 s.k) ∧ w'.cell? ⟨q, 1, none⟩ = some (.int .i64 s.o) ∧ w'.cell? ⟨q, 2, none⟩ = some (.int .i64 s.n) ∧ w'.cell? ⟨q, 3, none⟩ = some (.string (tx s.d)))
    (first | (with_reducible assumption) | (with_reducible exact unhide S0))
    (first | (go_at_call 12; with_reducible refine (unhide HO _ (unhide HBd)).mono ?_; rintro e w2 ⟨a2, c2, rfl, ho, hb⟩; have HPo := hide (OwnP.ps ho); have HCo := hide (OwnP.cap ho); have HB2 := hide (below_then (unhide HBd) hb); have S1 := unhide KS _ (unhide HB2); clear ho hb) | (go_at_call 11; with_reducible refine (unhide HR _ _ _ (unhide HPo) (unhide HCo)).mono ?_; rintro e w3 ⟨rfl, hb⟩; have HB3 := hide (below_then (unhide HB2) hb); have S2 := unhide KS _ (unhide HB3); clear hb))
  clear S0 S1 S2 HPo HCo HBd HB1 HB2 
  obtain ⟨c0, c1, c2, c3⟩ := unhide KS _ (unhide HB3)
  go_wp2_with fail
  refine (unhide HRd _ (unhide HB3)).mono ?_
  rintro e w4 ⟨rfl, hb⟩
  have HB4 := hide (below_then (unhide HB3) hb)
  clear hb HB3 
  clear c0 c1 c2 c3
  have HBd := hide ((unhide HB4).drew)
  have S0 := hide (unhide KS _ (unhide HBd))
  go_wp2
  go_region_held3 (fun w' => w'.cell? ⟨q, 0, none⟩ = some (.int .i64 s.k) ∧ w'.cell? ⟨q, 1, none⟩ = some (.int .i64 s.o) ∧ w'.cell? ⟨q, 2, none⟩ = some (.int .i64 s.n) ∧ w'.cell? ⟨q, 3, none⟩ = some (.string (tx s.d)))
    (first | (with_reducible assumption) | (with_reducible exact unhide S0))
    (first | (go_at_call 12; with_reducible refine (unhide HO _ (unhide HBd)).mono ?_; rintro e w5 ⟨a5, c5, rfl, ho, hb⟩; have HPo := hide (OwnP.ps ho); have HCo := hide (OwnP.cap ho); have HB5 := hide (below_then (unhide HBd) hb); have S1 := unhide KS _ (unhide HB5); clear ho hb) | (go_at_call 14; with_reducible refine (unhide HW _ _ _ (unhide HPo) (unhide HCo)).mono ?_; rintro e w6 ⟨⟨v, rfl, ho⟩, hb⟩; have HB6 := hide (below_then (unhide HB5) hb); obtain ⟨b6, d6, rfl⟩ := ho.form; have M1 := hide ho.most; have V1_6 := hide (OwnP.ps ho); have S2 := unhide KS _ (unhide HB6); clear hb))
  clear S0 S1 S2 HPo HCo HBd HB4 HB5 
  obtain ⟨c0, c1, c2, c3⟩ := unhide KS _ (unhide HB6)
  go_wp2_with fail
  refine (unhide HWd _ (unhide HB6)).mono ?_
  rintro e w7 ⟨⟨v, rfl, ho⟩, hb⟩
  have HB7 := hide (below_then (unhide HB6) hb)
  have V1_7 := hide ((unhide V1_6).below hb)
  obtain ⟨b7, d7, rfl⟩ := ho.form
  have V2_7 := hide (OwnP.ps ho)
  clear hb HB6 V1_6
  clear c0 c1 c2 c3
  go_wp2_with fail
  refine (unhide HS _ _ _ _ _ _ (unhide V1_7) (unhide V2_7) (unhide M1)).mono ?_
  rintro e w8 ⟨rfl, hb⟩
  have HB8 := hide (below_then (unhide HB7) hb)
  have V1_8 := hide ((unhide V1_7).below hb)
  have V2_8 := hide ((unhide V2_7).below hb)
  clear hb HB7 V1_7 V2_7
  clear V1_8 V2_8
  clear M1
  go_wp2_with fail
  refine (unhide HO _ (unhide HB8)).mono ?_
  rintro e w9 ⟨a9, c9, rfl, ho, hb⟩
  have HB9 := hide (below_then (unhide HB8) hb)
  have PO_9 := hide (OwnP.ps ho)
  clear hb HB8 
  go_wp2_with fail
  refine (unhide HC _ _ _ (unhide PO_9)).mono ?_
  rintro e w10 ⟨rfl, hb⟩
  have HB10 := hide (below_then (unhide HB9) hb)
  have PO_10 := hide ((unhide PO_9).below hb)
  clear hb HB9 PO_9
  clear PO_10
  go_wp2_with fail
  refine (unhide HCd _ (unhide HB10)).mono ?_
  rintro e w11 ⟨rfl, hb⟩
  have HB11 := hide (below_then (unhide HB10) hb)
  clear hb HB10 
  go_wp2
  have HBd := hide ((unhide HB11).drew)
  have S0 := hide (unhide KS _ (unhide HBd))
  go_wp2
  go_region_held3 (fun w' => w'.cell? ⟨q, 0, none⟩ = some (.int .i64 s.k) ∧ w'.cell? ⟨q, 1, none⟩ = some (.int .i64 s.o) ∧ w'.cell? ⟨q, 2, none⟩ = some (.int .i64 s.n) ∧ w'.cell? ⟨q, 3, none⟩ = some (.string (tx s.d)))
    (first | (with_reducible assumption) | (with_reducible exact unhide S0))
    (first | (go_at_call 12; with_reducible refine (unhide HO _ (unhide HBd)).mono ?_; rintro e w12 ⟨a12, c12, rfl, ho, hb⟩; have HPo := hide (OwnP.ps ho); have HCo := hide (OwnP.cap ho); have HB12 := hide (below_then (unhide HBd) hb); have S1 := unhide KS _ (unhide HB12); clear ho hb) | (go_at_call 19; with_reducible refine (unhide HT _ _ _ (unhide HPo) (unhide HCo)).mono ?_; rintro e w13 ⟨⟨v, rfl, ho⟩, hb⟩; have HB13 := hide (below_then (unhide HB12) hb); obtain ⟨b13, d13, rfl⟩ := ho.form; have M1 := hide ho.most; have V1_13 := hide (OwnP.ps ho); have S2 := unhide KS _ (unhide HB13); clear hb))
  clear S0 S1 S2 HPo HCo HBd HB11 HB12 
  obtain ⟨c0, c1, c2, c3⟩ := unhide KS _ (unhide HB13)
  go_wp2_with fail
  refine (unhide HTd _ (unhide HB13)).mono ?_
  rintro e w14 ⟨⟨v, rfl, ho⟩, hb⟩
  have HB14 := hide (below_then (unhide HB13) hb)
  have V1_14 := hide ((unhide V1_13).below hb)
  obtain ⟨b14, d14, rfl⟩ := ho.form
  have V2_14 := hide (OwnP.ps ho)
  clear hb HB13 V1_13
  go_wp2
  clear c0 c1 c2 c3
  have HBd := hide ((unhide HB14).drew)
  have V1_d := hide ((unhide V1_14).below ((Below.refl w14.heap.size w14).drew))
  have V2_d := hide ((unhide V2_14).below ((Below.refl w14.heap.size w14).drew))
  have S0 := hide (unhide KS _ (unhide HBd))
  go_wp2
  go_region_held3 (fun w' => w'.cell? ⟨q, 0, none⟩ = some (.int .i64 s.k) ∧ w'.cell? ⟨q, 1, none⟩ = some (.int .i64 s.o) ∧ w'.cell? ⟨q, 2, none⟩ = some (.int .i64 s.n) ∧ w'.cell? ⟨q, 3, none⟩ = some (.string (tx s.d)))
    (first | (with_reducible assumption) | (with_reducible exact unhide S0))
    (first | (go_at_call 12; with_reducible refine (unhide HO _ (unhide HBd)).mono ?_; rintro e w15 ⟨a15, c15, rfl, ho, hb⟩; have HPo := hide (OwnP.ps ho); have HCo := hide (OwnP.cap ho); have HB15 := hide (below_then (unhide HBd) hb); have V1_15 := hide ((unhide V1_d).below hb); have V2_15 := hide ((unhide V2_d).below hb); have S1 := unhide KS _ (unhide HB15); clear ho hb) | (go_at_call 21; with_reducible refine (unhide HP _ _ _ (unhide HPo) (unhide HCo)).mono ?_; rintro e w16 ⟨⟨v, rfl, ho⟩, hb⟩; have HB16 := hide (below_then (unhide HB15) hb); have V1_16 := hide ((unhide V1_15).below hb); have V2_16 := hide ((unhide V2_15).below hb); obtain ⟨b16, d16, rfl⟩ := ho.form; have M3 := hide ho.most; have V3_16 := hide (OwnP.ps ho); have S2 := unhide KS _ (unhide HB16); clear hb))
  clear S0 S1 S2 HPo HCo HBd HB14 HB15 V1_14 V1_d V1_15 V2_14 V2_d V2_15
  obtain ⟨c0, c1, c2, c3⟩ := unhide KS _ (unhide HB16)
  go_wp2_with fail
  refine (unhide HPd _ (unhide HB16)).mono ?_
  rintro e w17 ⟨⟨v, rfl, ho⟩, hb⟩
  have HB17 := hide (below_then (unhide HB16) hb)
  have V1_17 := hide ((unhide V1_16).below hb)
  have V2_17 := hide ((unhide V2_16).below hb)
  have V3_17 := hide ((unhide V3_16).below hb)
  obtain ⟨b17, d17, rfl⟩ := ho.form
  have V4_17 := hide (OwnP.ps ho)
  clear hb HB16 V1_16 V2_16 V3_16
  clear c0 c1 c2 c3
  go_wp2_with fail
  refine (unhide HO _ (unhide HB17)).mono ?_
  rintro e w18 ⟨a18, c18, rfl, ho, hb⟩
  have HB18 := hide (below_then (unhide HB17) hb)
  have V1_18 := hide ((unhide V1_17).below hb)
  have V2_18 := hide ((unhide V2_17).below hb)
  have V3_18 := hide ((unhide V3_17).below hb)
  have V4_18 := hide ((unhide V4_17).below hb)
  have PO_18 := hide (OwnP.ps ho)
  clear hb HB17 V1_17 V2_17 V3_17 V4_17
  go_wp2_with fail
  refine (unhide HN _ _ _ (unhide PO_18)).mono ?_
  rintro e w19 ⟨⟨v, rfl, ho⟩, hb⟩
  have HB19 := hide (below_then (unhide HB18) hb)
  have V1_19 := hide ((unhide V1_18).below hb)
  have V2_19 := hide ((unhide V2_18).below hb)
  have V3_19 := hide ((unhide V3_18).below hb)
  have V4_19 := hide ((unhide V4_18).below hb)
  have PO_19 := hide ((unhide PO_18).below hb)
  obtain ⟨r1, r2, rfl⟩ := ho.form
  have R1_19 := hide (OwnR.rs ho)
  clear hb HB18 V1_18 V2_18 V3_18 V4_18 PO_18
  clear PO_19
  go_wp2_with fail
  refine (unhide HNd _ (unhide HB19)).mono ?_
  rintro e w20 ⟨⟨v, rfl, ho⟩, hb⟩
  have HB20 := hide (below_then (unhide HB19) hb)
  have V1_20 := hide ((unhide V1_19).below hb)
  have V2_20 := hide ((unhide V2_19).below hb)
  have V3_20 := hide ((unhide V3_19).below hb)
  have V4_20 := hide ((unhide V4_19).below hb)
  have R1_20 := hide ((unhide R1_19).below hb)
  obtain ⟨r3, r4, rfl⟩ := ho.form
  have R2_20 := hide (OwnR.rs ho)
  clear hb HB19 V1_19 V2_19 V3_19 V4_19 R1_19
  go_wp2_with fail
  refine (unhide HS _ _ _ _ _ _ (unhide V1_20) (unhide V2_20) (unhide M1)).mono ?_
  rintro e w21 ⟨rfl, hb⟩
  have HB21 := hide (below_then (unhide HB20) hb)
  have V1_21 := hide ((unhide V1_20).below hb)
  have V2_21 := hide ((unhide V2_20).below hb)
  have V3_21 := hide ((unhide V3_20).below hb)
  have V4_21 := hide ((unhide V4_20).below hb)
  have R1_21 := hide ((unhide R1_20).below hb)
  have R2_21 := hide ((unhide R2_20).below hb)
  clear hb HB20 V1_20 V2_20 V3_20 V4_20 R1_20 R2_20
  clear V1_21 V2_21
  go_wp2_with fail
  refine (unhide HS _ _ _ _ _ _ (unhide V3_21) (unhide V4_21) (unhide M3)).mono ?_
  rintro e w22 ⟨rfl, hb⟩
  have HB22 := hide (below_then (unhide HB21) hb)
  have V3_22 := hide ((unhide V3_21).below hb)
  have V4_22 := hide ((unhide V4_21).below hb)
  have R1_22 := hide ((unhide R1_21).below hb)
  have R2_22 := hide ((unhide R2_21).below hb)
  clear hb HB21 V3_21 V4_21 R1_21 R2_21
  clear V3_22 V4_22
  go_wp2
  go_loopw [25] (fun s wr => ∃ k : Nat, k ≤ nl.length ∧ s = .int .i64 k ∧ Rs wr r1 nl ∧ Rs wr r3 nl ∧ Below w0.heap.size w0 wr) (fun s _ => nl.length - (intOf s).toNat)
  case atStart => exact ⟨0, Nat.zero_le _, rfl, unhide R1_22, unhide R2_22, unhide HB22⟩
  case round =>
    obtain ⟨k, hk, rfl, hr1, hr2, hb⟩ := hrel
    have HB := hide hb
    have HR1 := hide hr1
    have HR2 := hide hr2
    by_cases hlt : k < nl.length
    · obtain ⟨⟨x, y⟩, hx⟩ := get_some hlt
      obtain ⟨b, off, rfl, c0, c1, c2⟩ := hr1.get hx
      obtain ⟨b', off', rfl, d0, d1, d2⟩ := hr2.get hx
      have hlt' : (k : Int) < (nl.length : Int) := by omega
      have HLT := hide hlt
      have hrl := unhide HRL
      clear hx hb hr1 hr2 HB22 R1_22 R2_22
      go_wp2
      go_quiet (fail)
      have HB6 := hide (below_then (unhide HB) (b_drewN wr nq))
      have HQ1 := hide ((unhide HR1).below (b_drewN wr nq))
      have HQ2 := hide ((unhide HR2).below (b_drewN wr nq))
      clear HB HR1 HR2
      generalize wr.drewN nq = w6 at *
      go_wp2
      go_roundw
      case rel => exact ⟨k + 1, by have := unhide HLT; omega, by go_num, unhide HQ1, unhide HQ2, unhide HB6⟩
      case measure => have := unhide HLT; simp [intOf] <;> omega
    · obtain rfl : k = nl.length := by omega
      have hlt' : ¬ (nl.length : Int) < (nl.length : Int) := by omega
      clear hlt hb hr1 hr2 HR1 HR2 HB22 R1_22 R2_22
      go_wp2
      go_ret
      exact ⟨rfl, below_then (unhide HBW) (unhide HB)⟩
end Go.Proofs.YtmpgaecnibakdaaDoor
