/- The walk of the law PathSplits. -/
import Derived.Test.YtoogcejbhehoaaaDoorAw
namespace Go.Proofs.YtoogcejbhehoaaaDoor
open Go.ChangeShapes Go.WideShapes Go.ChangeAt Go.RowKit

set_option maxHeartbeats 4000000 in
set_option maxRecDepth 10000 in
theorem splits_walk (s : ByteArray) (w : World) (hT : Tb w) (hE : Er w) : Calls Tryd.prog 3 #[.string s] w fun e w' => e = .returned (.bool true) ∧ Below w.heap.size w w' := by
  have HA := hide (fun W (hW : Tb W) => awake_any W hW)
  have HT := hide hT
  have HE := hide hE
  clear hT hE
  by_cases hs : 4096 < s.size
  · have g : (4096 : Int) < (s.size : Int) := by omega
    go_enter Tryd.func3, Tryd.ntmps3
    go_wp2_with (go_at_call 8; refine (unhide HA _ (unhide HT)).mono ?_; rintro e w1 ⟨rfl, hb⟩)
    go_ret
    exact ⟨rfl, hb⟩
  have g : ¬ (4096 : Int) < (s.size : Int) := by omega
  have hs9 : s.size ≤ 900000 := by omega
  have hs1 : s.size ≤ 1000000 := by omega
  have H9 := hide (fun W => split_any s W hs9)
  have H10 := hide (fun W => refSplit_any s W hs9)
  have H11 := hide (fun W (hW : Tb W) (hW' : Er W) => loose_any s W hs9 hW hW')
  have H12 := hide (fun W => refLoose_any s W hs9)
  have H13 := hide (fun W => lead_any s W hs9)
  have H14 := hide (fun W => refLead_any s W hs9)
  have H15 := hide (fun W => name_any s W hs1)
  have H16 := hide (fun W => refName_any s W hs1)
  have H17 := hide (fun W => target_any s W hs1)
  have H18 := hide (fun W => refTarget_any s W hs1)
  unfold Names at H9 H10 H11 H12
  unfold Leads at H13 H14
  generalize (walkR false (bs s)).getD [] = L1 at *
  generalize (walkR true (bs s)).getD [] = L2 at *
  generalize ((leadR (bs s)).map (·.1)).getD [] = L3 at *
  generalize ((leadR (bs s)).map (·.2)).getD false = b3 at *
  generalize erO (walkR false (bs s)) = e1 at *
  generalize erO (walkR true (bs s)) = e2 at *
  generalize erO (leadR (bs s)) = e3 at *
  generalize nameB (bs s) = bn at *
  generalize targB (bs s) = bt at *
  have HB0 := hide (Below.refl w.heap.size w)
  clear hs hs9 hs1
  go_enter Tryd.func3, Tryd.ntmps3
  go_wp2_with fail
  refine (unhide HA _ ((unhide HT).below (unhide HB0))).mono ?_
  rintro e w1 ⟨rfl, hb⟩
  have HB1 := hide (below_then (unhide HB0) hb)
  clear hb  HB0 
  go_wp2_with fail
  refine (unhide H9 _).mono ?_
  rintro e w2 ⟨⟨a1, c1, rfl, hl⟩, hb⟩
  have HB2 := hide (below_then (unhide HB1) hb)
  have A_2 := hide hl
  clear hb hl HB1 
  go_wp2_with fail
  refine (unhide H10 _).mono ?_
  rintro e w3 ⟨⟨a2, c2, rfl, hl⟩, hb⟩
  have HB3 := hide (below_then (unhide HB2) hb)
  have A_3 := hide ((unhide A_2).below hb)
  have B_3 := hide hl
  clear hb hl HB2 A_2
  go_wp2_with fail
  refine (unhide H11 _ ((unhide HT).below (unhide HB3)) ((unhide HE).below (unhide HB3))).mono ?_
  rintro e w4 ⟨⟨a3, c3, rfl, hl⟩, hb⟩
  have HB4 := hide (below_then (unhide HB3) hb)
  have A_4 := hide ((unhide A_3).below hb)
  have B_4 := hide ((unhide B_3).below hb)
  have C_4 := hide hl
  clear hb hl HB3 A_3 B_3
  go_wp2_with fail
  refine (unhide H12 _).mono ?_
  rintro e w5 ⟨⟨a4, c4, rfl, hl⟩, hb⟩
  have HB5 := hide (below_then (unhide HB4) hb)
  have A_5 := hide ((unhide A_4).below hb)
  have B_5 := hide ((unhide B_4).below hb)
  have C_5 := hide ((unhide C_4).below hb)
  have D_5 := hide hl
  clear hb hl HB4 A_4 B_4 C_4
  go_wp2_with fail
  refine (unhide H13 _).mono ?_
  rintro e w6 ⟨⟨a5, c5, rfl, hl⟩, hb⟩
  have HB6 := hide (below_then (unhide HB5) hb)
  have A_6 := hide ((unhide A_5).below hb)
  have B_6 := hide ((unhide B_5).below hb)
  have C_6 := hide ((unhide C_5).below hb)
  have D_6 := hide ((unhide D_5).below hb)
  have X_6 := hide hl
  clear hb hl HB5 A_5 B_5 C_5 D_5
  go_wp2_with fail
  refine (unhide H14 _).mono ?_
  rintro e w7 ⟨⟨a6, c6, rfl, hl⟩, hb⟩
  have HB7 := hide (below_then (unhide HB6) hb)
  have A_7 := hide ((unhide A_6).below hb)
  have B_7 := hide ((unhide B_6).below hb)
  have C_7 := hide ((unhide C_6).below hb)
  have D_7 := hide ((unhide D_6).below hb)
  have X_7 := hide ((unhide X_6).below hb)
  have Y_7 := hide hl
  clear hb hl HB6 A_6 B_6 C_6 D_6 X_6
  go_wp2_with fail
  refine (unhide H15 _).mono ?_
  rintro e w8 ⟨rfl, hb⟩
  have HB8 := hide (below_then (unhide HB7) hb)
  have A_8 := hide ((unhide A_7).below hb)
  have B_8 := hide ((unhide B_7).below hb)
  have C_8 := hide ((unhide C_7).below hb)
  have D_8 := hide ((unhide D_7).below hb)
  have X_8 := hide ((unhide X_7).below hb)
  have Y_8 := hide ((unhide Y_7).below hb)
  clear hb  HB7 A_7 B_7 C_7 D_7 X_7 Y_7
  go_wp2_with fail
  refine (unhide H16 _).mono ?_
  rintro e w8 ⟨rfl, rfl⟩
  go_wp2_with fail
  refine (unhide H17 _).mono ?_
  rintro e w8 ⟨rfl, rfl⟩
  go_wp2_with fail
  refine (unhide H18 _).mono ?_
  rintro e w8 ⟨rfl, rfl⟩
  go_wp2_with fail
  refine (same_self _ _ _ _ L1 _ (unhide A_8) (unhide B_8)).mono ?_
  rintro e w9 ⟨rfl, hb⟩
  have HB9 := hide (below_then (unhide HB8) hb)
  have A_9 := hide ((unhide A_8).below hb)
  have B_9 := hide ((unhide B_8).below hb)
  have C_9 := hide ((unhide C_8).below hb)
  have D_9 := hide ((unhide D_8).below hb)
  have X_9 := hide ((unhide X_8).below hb)
  have Y_9 := hide ((unhide Y_8).below hb)
  clear hb HB8 A_8 B_8 C_8 D_8 X_8 Y_8
  go_wp2_with fail
  refine (same_self _ _ _ _ L2 _ (unhide C_9) (unhide D_9)).mono ?_
  rintro e w10 ⟨rfl, hb⟩
  have HB10 := hide (below_then (unhide HB9) hb)
  have A_10 := hide ((unhide A_9).below hb)
  have B_10 := hide ((unhide B_9).below hb)
  have C_10 := hide ((unhide C_9).below hb)
  have D_10 := hide ((unhide D_9).below hb)
  have X_10 := hide ((unhide X_9).below hb)
  have Y_10 := hide ((unhide Y_9).below hb)
  clear hb HB9 A_9 B_9 C_9 D_9 X_9 Y_9
  go_wp2_with fail
  refine (same_self _ _ _ _ L3 _ (unhide X_10) (unhide Y_10)).mono ?_
  rintro e w11 ⟨rfl, hb⟩
  have HB11 := hide (below_then (unhide HB10) hb)
  have A_11 := hide ((unhide A_10).below hb)
  have B_11 := hide ((unhide B_10).below hb)
  have C_11 := hide ((unhide C_10).below hb)
  have D_11 := hide ((unhide D_10).below hb)
  have X_11 := hide ((unhide X_10).below hb)
  have Y_11 := hide ((unhide Y_10).below hb)
  clear hb HB10 A_10 B_10 C_10 D_10 X_10 Y_10
  go_wp2
  go_ret
  exact ⟨rfl, unhide HB11⟩
end Go.Proofs.YtoogcejbhehoaaaDoor
