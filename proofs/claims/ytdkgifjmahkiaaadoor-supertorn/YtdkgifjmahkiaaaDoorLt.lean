/- The walk of the law SuperTorn. -/
import Derived.Test.YtdkgifjmahkiaaaDoorSa
namespace Go.Proofs.YtdkgifjmahkiaaaDoor
open Go.ChangeShapes Go.WideShapes Go.ChangeAt Go.RowKit
open L4

set_option maxRecDepth 10000 in
set_option maxHeartbeats 2000000 in
theorem storn_e (G R S G2 R2 S2 : Int) (cut : Int) (w : World) (hT : Tab w) (s t : ByteArray) (E F : Nat) (hE : E ≠ 0) (h1 : swrapR G R S = (s, E)) (h2 : swrapR G2 R2 S2 = (t, F)) : Calls Tryd.prog 7 #[.agg #[.int .i64 G, .int .i64 R, .int .i64 S], .agg #[.int .i64 G2, .int .i64 R2, .int .i64 S2], .int .i64 cut] w fun e w' => e = .returned (.bool true) ∧ Below w.heap.size w w' := by
  have hA := fun W (hW : Tab W) => awake_any W hW
  have k1 := fun W (hW : Tab W) => swrap_any G R S W hW
  have k2 := fun W (hW : Tab W) => swrap_any G2 R2 S2 W hW
  rw [h1] at k1
  rw [h2] at k2
  have e1 : ((E : Int) == 0) = false := beq_eq_false_iff_ne.2 (by omega)
  have e2 : ((E : Int) != 0) = true := bne_iff_ne.2 (by omega)
  clear hE
  have HT := hide hT
  have HA := hide hA
  have H1 := hide k1
  have H2 := hide k2
  clear hT hA k1 k2 h1 h2
  go_enter Tryd.func7, Tryd.ntmps7
  go_wp2_with fail
  have HB0 := hide (below_then (b_alloc w (.cells #[.int .i64 G, .int .i64 R, .int .i64 S] 23)) (b_alloc (w.alloc (.cells #[.int .i64 G, .int .i64 R, .int .i64 S] 23)) (.cells #[.int .i64 G2, .int .i64 R2, .int .i64 S2] 23)))
  have X0 := hide ((Bk.new w (.int .i64 G) (.int .i64 R) (.int .i64 S) 23).then (b_alloc (w.alloc (.cells #[.int .i64 G, .int .i64 R, .int .i64 S] 23)) (.cells #[.int .i64 G2, .int .i64 R2, .int .i64 S2] 23)))
  have X1 := hide (Bk.new (w.alloc (.cells #[.int .i64 G, .int .i64 R, .int .i64 S] 23)) (.int .i64 G2) (.int .i64 R2) (.int .i64 S2) 23)
  have hsz : (w.alloc (.cells #[.int .i64 G, .int .i64 R, .int .i64 S] 23)).heap.size = w.heap.size + 1 := by simp
  rw [hsz] at X1
  clear hsz
  generalize ((w.alloc (.cells #[.int .i64 G, .int .i64 R, .int .i64 S] 23)).alloc (.cells #[.int .i64 G2, .int .i64 R2, .int .i64 S2] 23)) = w0 at *
  refine (unhide HA _ ((unhide HT).below (unhide HB0))).mono ?_
  rintro e w1 ⟨rfl, hb⟩
  have HB1 := hide (below_then (unhide HB0) hb)
  have X0_1 := hide ((unhide X0).then hb)
  have X1_1 := hide ((unhide X1).then hb)
  clear hb HB0 X0 X1
  obtain ⟨c00, c01, c02, _⟩ := (unhide X0_1).cells
  obtain ⟨c10, c11, c12, _⟩ := (unhide X1_1).cells
  go_wp2_with fail
  clear c00 c01 c02 c10 c11 c12
  refine (unhide H1 _ ((unhide HT).below (unhide HB1))).mono ?_
  unfold wrapped
  rintro e w2 ⟨rfl, hb⟩
  have HB2 := hide (below_then (unhide HB1) hb)
  have X0_2 := hide ((unhide X0_1).then hb)
  have X1_2 := hide ((unhide X1_1).then hb)
  clear hb HB1 X0_1 X1_1
  obtain ⟨c00, c01, c02, _⟩ := (unhide X0_2).cells
  obtain ⟨c10, c11, c12, _⟩ := (unhide X1_2).cells
  go_wp2_with fail
  clear c00 c01 c02 c10 c11 c12
  refine (unhide H2 _ ((unhide HT).below (unhide HB2))).mono ?_
  unfold wrapped
  rintro e w3 ⟨rfl, hb⟩
  have HB3 := hide (below_then (unhide HB2) hb)
  have X0_3 := hide ((unhide X0_2).then hb)
  have X1_3 := hide ((unhide X1_2).then hb)
  clear hb HB2 X0_2 X1_2
  obtain ⟨c00, c01, c02, _⟩ := (unhide X0_3).cells
  obtain ⟨c10, c11, c12, _⟩ := (unhide X1_3).cells
  go_wp2
  go_ret
  exact ⟨rfl, unhide HB3⟩
set_option maxRecDepth 10000 in
set_option maxHeartbeats 2000000 in
theorem storn_f (G R S G2 R2 S2 : Int) (cut : Int) (w : World) (hT : Tab w) (s t : ByteArray) (F : Nat) (hF : F ≠ 0) (h1 : swrapR G R S = (s, 0)) (h2 : swrapR G2 R2 S2 = (t, F)) : Calls Tryd.prog 7 #[.agg #[.int .i64 G, .int .i64 R, .int .i64 S], .agg #[.int .i64 G2, .int .i64 R2, .int .i64 S2], .int .i64 cut] w fun e w' => e = .returned (.bool true) ∧ Below w.heap.size w w' := by
  have hA := fun W (hW : Tab W) => awake_any W hW
  have k1 := fun W (hW : Tab W) => swrap_any G R S W hW
  have k2 := fun W (hW : Tab W) => swrap_any G2 R2 S2 W hW
  rw [h1] at k1
  rw [h2] at k2
  have f1 : ((F : Int) == 0) = false := beq_eq_false_iff_ne.2 (by omega)
  have f2 : ((F : Int) != 0) = true := bne_iff_ne.2 (by omega)
  clear hF
  have HT := hide hT
  have HA := hide hA
  have H1 := hide k1
  have H2 := hide k2
  clear hT hA k1 k2 h1 h2
  go_enter Tryd.func7, Tryd.ntmps7
  go_wp2_with fail
  have HB0 := hide (below_then (b_alloc w (.cells #[.int .i64 G, .int .i64 R, .int .i64 S] 23)) (b_alloc (w.alloc (.cells #[.int .i64 G, .int .i64 R, .int .i64 S] 23)) (.cells #[.int .i64 G2, .int .i64 R2, .int .i64 S2] 23)))
  have X0 := hide ((Bk.new w (.int .i64 G) (.int .i64 R) (.int .i64 S) 23).then (b_alloc (w.alloc (.cells #[.int .i64 G, .int .i64 R, .int .i64 S] 23)) (.cells #[.int .i64 G2, .int .i64 R2, .int .i64 S2] 23)))
  have X1 := hide (Bk.new (w.alloc (.cells #[.int .i64 G, .int .i64 R, .int .i64 S] 23)) (.int .i64 G2) (.int .i64 R2) (.int .i64 S2) 23)
  have hsz : (w.alloc (.cells #[.int .i64 G, .int .i64 R, .int .i64 S] 23)).heap.size = w.heap.size + 1 := by simp
  rw [hsz] at X1
  clear hsz
  generalize ((w.alloc (.cells #[.int .i64 G, .int .i64 R, .int .i64 S] 23)).alloc (.cells #[.int .i64 G2, .int .i64 R2, .int .i64 S2] 23)) = w0 at *
  refine (unhide HA _ ((unhide HT).below (unhide HB0))).mono ?_
  rintro e w1 ⟨rfl, hb⟩
  have HB1 := hide (below_then (unhide HB0) hb)
  have X0_1 := hide ((unhide X0).then hb)
  have X1_1 := hide ((unhide X1).then hb)
  clear hb HB0 X0 X1
  obtain ⟨c00, c01, c02, _⟩ := (unhide X0_1).cells
  obtain ⟨c10, c11, c12, _⟩ := (unhide X1_1).cells
  go_wp2_with fail
  clear c00 c01 c02 c10 c11 c12
  refine (unhide H1 _ ((unhide HT).below (unhide HB1))).mono ?_
  unfold wrapped
  rintro e w2 ⟨rfl, hb⟩
  have HB2 := hide (below_then (unhide HB1) hb)
  have X0_2 := hide ((unhide X0_1).then hb)
  have X1_2 := hide ((unhide X1_1).then hb)
  clear hb HB1 X0_1 X1_1
  obtain ⟨c00, c01, c02, _⟩ := (unhide X0_2).cells
  obtain ⟨c10, c11, c12, _⟩ := (unhide X1_2).cells
  go_wp2_with fail
  clear c00 c01 c02 c10 c11 c12
  refine (unhide H2 _ ((unhide HT).below (unhide HB2))).mono ?_
  unfold wrapped
  rintro e w3 ⟨rfl, hb⟩
  have HB3 := hide (below_then (unhide HB2) hb)
  have X0_3 := hide ((unhide X0_2).then hb)
  have X1_3 := hide ((unhide X1_2).then hb)
  clear hb HB2 X0_2 X1_2
  obtain ⟨c00, c01, c02, _⟩ := (unhide X0_3).cells
  obtain ⟨c10, c11, c12, _⟩ := (unhide X1_3).cells
  go_wp2
  go_ret
  exact ⟨rfl, unhide HB3⟩
set_option maxRecDepth 10000 in
set_option maxHeartbeats 2000000 in
theorem storn_g (G R S G2 R2 S2 : Int) (cut : Int) (w : World) (hT : Tab w) (s t : ByteArray) (hG : G = G2) (h1 : swrapR G R S = (s, 0)) (h2 : swrapR G2 R2 S2 = (t, 0)) : Calls Tryd.prog 7 #[.agg #[.int .i64 G, .int .i64 R, .int .i64 S], .agg #[.int .i64 G2, .int .i64 R2, .int .i64 S2], .int .i64 cut] w fun e w' => e = .returned (.bool true) ∧ Below w.heap.size w w' := by
  have hA := fun W (hW : Tab W) => awake_any W hW
  have k1 := fun W (hW : Tab W) => swrap_any G R S W hW
  have k2 := fun W (hW : Tab W) => swrap_any G2 R2 S2 W hW
  rw [h1] at k1
  rw [h2] at k2
  have g1 : (G == G2) = true := beq_iff_eq.2 hG
  clear hG
  have HT := hide hT
  have HA := hide hA
  have H1 := hide k1
  have H2 := hide k2
  clear hT hA k1 k2 h1 h2
  go_enter Tryd.func7, Tryd.ntmps7
  go_wp2_with fail
  have HB0 := hide (below_then (b_alloc w (.cells #[.int .i64 G, .int .i64 R, .int .i64 S] 23)) (b_alloc (w.alloc (.cells #[.int .i64 G, .int .i64 R, .int .i64 S] 23)) (.cells #[.int .i64 G2, .int .i64 R2, .int .i64 S2] 23)))
  have X0 := hide ((Bk.new w (.int .i64 G) (.int .i64 R) (.int .i64 S) 23).then (b_alloc (w.alloc (.cells #[.int .i64 G, .int .i64 R, .int .i64 S] 23)) (.cells #[.int .i64 G2, .int .i64 R2, .int .i64 S2] 23)))
  have X1 := hide (Bk.new (w.alloc (.cells #[.int .i64 G, .int .i64 R, .int .i64 S] 23)) (.int .i64 G2) (.int .i64 R2) (.int .i64 S2) 23)
  have hsz : (w.alloc (.cells #[.int .i64 G, .int .i64 R, .int .i64 S] 23)).heap.size = w.heap.size + 1 := by simp
  rw [hsz] at X1
  clear hsz
  generalize ((w.alloc (.cells #[.int .i64 G, .int .i64 R, .int .i64 S] 23)).alloc (.cells #[.int .i64 G2, .int .i64 R2, .int .i64 S2] 23)) = w0 at *
  refine (unhide HA _ ((unhide HT).below (unhide HB0))).mono ?_
  rintro e w1 ⟨rfl, hb⟩
  have HB1 := hide (below_then (unhide HB0) hb)
  have X0_1 := hide ((unhide X0).then hb)
  have X1_1 := hide ((unhide X1).then hb)
  clear hb HB0 X0 X1
  obtain ⟨c00, c01, c02, _⟩ := (unhide X0_1).cells
  obtain ⟨c10, c11, c12, _⟩ := (unhide X1_1).cells
  go_wp2_with fail
  clear c00 c01 c02 c10 c11 c12
  refine (unhide H1 _ ((unhide HT).below (unhide HB1))).mono ?_
  unfold wrapped
  rintro e w2 ⟨rfl, hb⟩
  have HB2 := hide (below_then (unhide HB1) hb)
  have X0_2 := hide ((unhide X0_1).then hb)
  have X1_2 := hide ((unhide X1_1).then hb)
  clear hb HB1 X0_1 X1_1
  obtain ⟨c00, c01, c02, _⟩ := (unhide X0_2).cells
  obtain ⟨c10, c11, c12, _⟩ := (unhide X1_2).cells
  go_wp2_with fail
  clear c00 c01 c02 c10 c11 c12
  refine (unhide H2 _ ((unhide HT).below (unhide HB2))).mono ?_
  unfold wrapped
  rintro e w3 ⟨rfl, hb⟩
  have HB3 := hide (below_then (unhide HB2) hb)
  have X0_3 := hide ((unhide X0_2).then hb)
  have X1_3 := hide ((unhide X1_2).then hb)
  clear hb HB2 X0_2 X1_2
  obtain ⟨c00, c01, c02, _⟩ := (unhide X0_3).cells
  obtain ⟨c10, c11, c12, _⟩ := (unhide X1_3).cells
  go_wp2
  go_ret
  exact ⟨rfl, unhide HB3⟩
set_option maxRecDepth 10000 in
set_option maxHeartbeats 2000000 in
theorem storn_lo (G R S G2 R2 S2 : Int) (cut : Int) (w : World) (hT : Tab w) (s t : ByteArray) (hG : ¬ G = G2) (hc : cut < 0) (h1 : swrapR G R S = (s, 0)) (h2 : swrapR G2 R2 S2 = (t, 0)) : Calls Tryd.prog 7 #[.agg #[.int .i64 G, .int .i64 R, .int .i64 S], .agg #[.int .i64 G2, .int .i64 R2, .int .i64 S2], .int .i64 cut] w fun e w' => e = .returned (.bool true) ∧ Below w.heap.size w w' := by
  have hA := fun W (hW : Tab W) => awake_any W hW
  have k1 := fun W (hW : Tab W) => swrap_any G R S W hW
  have k2 := fun W (hW : Tab W) => swrap_any G2 R2 S2 W hW
  rw [h1] at k1
  rw [h2] at k2
  have g1 : (G == G2) = false := beq_eq_false_iff_ne.2 hG
  clear hG
  have HT := hide hT
  have HA := hide hA
  have H1 := hide k1
  have H2 := hide k2
  clear hT hA k1 k2 h1 h2
  go_enter Tryd.func7, Tryd.ntmps7
  go_wp2_with fail
  have HB0 := hide (below_then (b_alloc w (.cells #[.int .i64 G, .int .i64 R, .int .i64 S] 23)) (b_alloc (w.alloc (.cells #[.int .i64 G, .int .i64 R, .int .i64 S] 23)) (.cells #[.int .i64 G2, .int .i64 R2, .int .i64 S2] 23)))
  have X0 := hide ((Bk.new w (.int .i64 G) (.int .i64 R) (.int .i64 S) 23).then (b_alloc (w.alloc (.cells #[.int .i64 G, .int .i64 R, .int .i64 S] 23)) (.cells #[.int .i64 G2, .int .i64 R2, .int .i64 S2] 23)))
  have X1 := hide (Bk.new (w.alloc (.cells #[.int .i64 G, .int .i64 R, .int .i64 S] 23)) (.int .i64 G2) (.int .i64 R2) (.int .i64 S2) 23)
  have hsz : (w.alloc (.cells #[.int .i64 G, .int .i64 R, .int .i64 S] 23)).heap.size = w.heap.size + 1 := by simp
  rw [hsz] at X1
  clear hsz
  generalize ((w.alloc (.cells #[.int .i64 G, .int .i64 R, .int .i64 S] 23)).alloc (.cells #[.int .i64 G2, .int .i64 R2, .int .i64 S2] 23)) = w0 at *
  refine (unhide HA _ ((unhide HT).below (unhide HB0))).mono ?_
  rintro e w1 ⟨rfl, hb⟩
  have HB1 := hide (below_then (unhide HB0) hb)
  have X0_1 := hide ((unhide X0).then hb)
  have X1_1 := hide ((unhide X1).then hb)
  clear hb HB0 X0 X1
  obtain ⟨c00, c01, c02, _⟩ := (unhide X0_1).cells
  obtain ⟨c10, c11, c12, _⟩ := (unhide X1_1).cells
  go_wp2_with fail
  clear c00 c01 c02 c10 c11 c12
  refine (unhide H1 _ ((unhide HT).below (unhide HB1))).mono ?_
  unfold wrapped
  rintro e w2 ⟨rfl, hb⟩
  have HB2 := hide (below_then (unhide HB1) hb)
  have X0_2 := hide ((unhide X0_1).then hb)
  have X1_2 := hide ((unhide X1_1).then hb)
  clear hb HB1 X0_1 X1_1
  obtain ⟨c00, c01, c02, _⟩ := (unhide X0_2).cells
  obtain ⟨c10, c11, c12, _⟩ := (unhide X1_2).cells
  go_wp2_with fail
  clear c00 c01 c02 c10 c11 c12
  refine (unhide H2 _ ((unhide HT).below (unhide HB2))).mono ?_
  unfold wrapped
  rintro e w3 ⟨rfl, hb⟩
  have HB3 := hide (below_then (unhide HB2) hb)
  have X0_3 := hide ((unhide X0_2).then hb)
  have X1_3 := hide ((unhide X1_2).then hb)
  clear hb HB2 X0_2 X1_2
  obtain ⟨c00, c01, c02, _⟩ := (unhide X0_3).cells
  obtain ⟨c10, c11, c12, _⟩ := (unhide X1_3).cells
  go_wp2
  go_ret
  exact ⟨rfl, unhide HB3⟩
set_option maxRecDepth 10000 in
set_option maxHeartbeats 2000000 in
theorem storn_hi (G R S G2 R2 S2 : Int) (cut : Int) (w : World) (hT : Tab w) (s t : ByteArray) (hG : ¬ G = G2) (hc0 : 0 ≤ cut) (hc : 1024 < cut) (h1 : swrapR G R S = (s, 0)) (h2 : swrapR G2 R2 S2 = (t, 0)) : Calls Tryd.prog 7 #[.agg #[.int .i64 G, .int .i64 R, .int .i64 S], .agg #[.int .i64 G2, .int .i64 R2, .int .i64 S2], .int .i64 cut] w fun e w' => e = .returned (.bool true) ∧ Below w.heap.size w w' := by
  have hA := fun W (hW : Tab W) => awake_any W hW
  have k1 := fun W (hW : Tab W) => swrap_any G R S W hW
  have k2 := fun W (hW : Tab W) => swrap_any G2 R2 S2 W hW
  rw [h1] at k1
  rw [h2] at k2
  have g1 : (G == G2) = false := beq_eq_false_iff_ne.2 hG
  clear hG
  have HT := hide hT
  have HA := hide hA
  have H1 := hide k1
  have H2 := hide k2
  clear hT hA k1 k2 h1 h2
  go_enter Tryd.func7, Tryd.ntmps7
  go_wp2_with fail
  have HB0 := hide (below_then (b_alloc w (.cells #[.int .i64 G, .int .i64 R, .int .i64 S] 23)) (b_alloc (w.alloc (.cells #[.int .i64 G, .int .i64 R, .int .i64 S] 23)) (.cells #[.int .i64 G2, .int .i64 R2, .int .i64 S2] 23)))
  have X0 := hide ((Bk.new w (.int .i64 G) (.int .i64 R) (.int .i64 S) 23).then (b_alloc (w.alloc (.cells #[.int .i64 G, .int .i64 R, .int .i64 S] 23)) (.cells #[.int .i64 G2, .int .i64 R2, .int .i64 S2] 23)))
  have X1 := hide (Bk.new (w.alloc (.cells #[.int .i64 G, .int .i64 R, .int .i64 S] 23)) (.int .i64 G2) (.int .i64 R2) (.int .i64 S2) 23)
  have hsz : (w.alloc (.cells #[.int .i64 G, .int .i64 R, .int .i64 S] 23)).heap.size = w.heap.size + 1 := by simp
  rw [hsz] at X1
  clear hsz
  generalize ((w.alloc (.cells #[.int .i64 G, .int .i64 R, .int .i64 S] 23)).alloc (.cells #[.int .i64 G2, .int .i64 R2, .int .i64 S2] 23)) = w0 at *
  refine (unhide HA _ ((unhide HT).below (unhide HB0))).mono ?_
  rintro e w1 ⟨rfl, hb⟩
  have HB1 := hide (below_then (unhide HB0) hb)
  have X0_1 := hide ((unhide X0).then hb)
  have X1_1 := hide ((unhide X1).then hb)
  clear hb HB0 X0 X1
  obtain ⟨c00, c01, c02, _⟩ := (unhide X0_1).cells
  obtain ⟨c10, c11, c12, _⟩ := (unhide X1_1).cells
  go_wp2_with fail
  clear c00 c01 c02 c10 c11 c12
  refine (unhide H1 _ ((unhide HT).below (unhide HB1))).mono ?_
  unfold wrapped
  rintro e w2 ⟨rfl, hb⟩
  have HB2 := hide (below_then (unhide HB1) hb)
  have X0_2 := hide ((unhide X0_1).then hb)
  have X1_2 := hide ((unhide X1_1).then hb)
  clear hb HB1 X0_1 X1_1
  obtain ⟨c00, c01, c02, _⟩ := (unhide X0_2).cells
  obtain ⟨c10, c11, c12, _⟩ := (unhide X1_2).cells
  go_wp2_with fail
  clear c00 c01 c02 c10 c11 c12
  refine (unhide H2 _ ((unhide HT).below (unhide HB2))).mono ?_
  unfold wrapped
  rintro e w3 ⟨rfl, hb⟩
  have HB3 := hide (below_then (unhide HB2) hb)
  have X0_3 := hide ((unhide X0_2).then hb)
  have X1_3 := hide ((unhide X1_2).then hb)
  clear hb HB2 X0_2 X1_2
  obtain ⟨c00, c01, c02, _⟩ := (unhide X0_3).cells
  obtain ⟨c10, c11, c12, _⟩ := (unhide X1_3).cells
  go_wp2
  go_ret
  exact ⟨rfl, unhide HB3⟩
set_option maxRecDepth 10000 in
set_option maxHeartbeats 2000000 in
theorem storn_no (G R S G2 R2 S2 : Int) (cut : Int) (w : World) (hT : Tab w) (s t : ByteArray) (c : Nat) (hcut : cut = (c : Int)) (hc : c ≤ 1024) (hG : ¬ G = G2) (h1 : swrapR G R S = (s, 0)) (h2 : swrapR G2 R2 S2 = (t, 0)) (z1 : s.size = 1024) (z2 : t.size = 1024) (u : ByteArray) (hu : s.extract 0 c ++ t.extract c 1024 = u) (E : Nat) (hE : E ≠ 0) (h3 : sopenR u = (0, 0, 0, E)) : Calls Tryd.prog 7 #[.agg #[.int .i64 G, .int .i64 R, .int .i64 S], .agg #[.int .i64 G2, .int .i64 R2, .int .i64 S2], .int .i64 cut] w fun e w' => e = .returned (.bool true) ∧ Below w.heap.size w w' := by
  have hA := fun W (hW : Tab W) => awake_any W hW
  have k1 := fun W (hW : Tab W) => swrap_any G R S W hW
  have k2 := fun W (hW : Tab W) => swrap_any G2 R2 S2 W hW
  rw [h1] at k1
  rw [h2] at k2
  subst hcut
  have g1 : (G == G2) = false := beq_eq_false_iff_ne.2 hG
  have g2 : (G2 == G) = false := beq_eq_false_iff_ne.2 (fun h => hG h.symm)
  have zc1 : ((s.extract 0 c).size : Int) ≤ 1024 := by rw [ByteArray.size_extract]; omega
  have ad : ∀ W, (Op.stringOp .add (s.extract 0 c) (t.extract c 1024)).run Tryd.prog W = .ok (.string u) W := fun W => by
    rw [← hu]
    exact add_run _ _ (by rw [ByteArray.size_extract, ByteArray.size_extract]; omega) W
  have k3 := fun W (hW : Tab W) => sopen_any u W hW
  rw [h3] at k3
  have H3 := hide k3
  clear k3 h3 hG hu zc1
  have e1 : ((E : Int) == 0) = false := beq_eq_false_iff_ne.2 (by omega)
  have e2 : ((E : Int) != 0) = true := bne_iff_ne.2 (by omega)
  clear hE
  have HT := hide hT
  have HA := hide hA
  have H1 := hide k1
  have H2 := hide k2
  clear hT hA k1 k2 h1 h2
  go_enter Tryd.func7, Tryd.ntmps7
  go_wp2_with fail
  have HB0 := hide (below_then (b_alloc w (.cells #[.int .i64 G, .int .i64 R, .int .i64 S] 23)) (b_alloc (w.alloc (.cells #[.int .i64 G, .int .i64 R, .int .i64 S] 23)) (.cells #[.int .i64 G2, .int .i64 R2, .int .i64 S2] 23)))
  have X0 := hide ((Bk.new w (.int .i64 G) (.int .i64 R) (.int .i64 S) 23).then (b_alloc (w.alloc (.cells #[.int .i64 G, .int .i64 R, .int .i64 S] 23)) (.cells #[.int .i64 G2, .int .i64 R2, .int .i64 S2] 23)))
  have X1 := hide (Bk.new (w.alloc (.cells #[.int .i64 G, .int .i64 R, .int .i64 S] 23)) (.int .i64 G2) (.int .i64 R2) (.int .i64 S2) 23)
  have hsz : (w.alloc (.cells #[.int .i64 G, .int .i64 R, .int .i64 S] 23)).heap.size = w.heap.size + 1 := by simp
  rw [hsz] at X1
  clear hsz
  generalize ((w.alloc (.cells #[.int .i64 G, .int .i64 R, .int .i64 S] 23)).alloc (.cells #[.int .i64 G2, .int .i64 R2, .int .i64 S2] 23)) = w0 at *
  refine (unhide HA _ ((unhide HT).below (unhide HB0))).mono ?_
  rintro e w1 ⟨rfl, hb⟩
  have HB1 := hide (below_then (unhide HB0) hb)
  have X0_1 := hide ((unhide X0).then hb)
  have X1_1 := hide ((unhide X1).then hb)
  clear hb HB0 X0 X1
  obtain ⟨c00, c01, c02, _⟩ := (unhide X0_1).cells
  obtain ⟨c10, c11, c12, _⟩ := (unhide X1_1).cells
  go_wp2_with fail
  clear c00 c01 c02 c10 c11 c12
  refine (unhide H1 _ ((unhide HT).below (unhide HB1))).mono ?_
  unfold wrapped
  rintro e w2 ⟨rfl, hb⟩
  have HB2 := hide (below_then (unhide HB1) hb)
  have X0_2 := hide ((unhide X0_1).then hb)
  have X1_2 := hide ((unhide X1_1).then hb)
  clear hb HB1 X0_1 X1_1
  obtain ⟨c00, c01, c02, _⟩ := (unhide X0_2).cells
  obtain ⟨c10, c11, c12, _⟩ := (unhide X1_2).cells
  go_wp2_with fail
  clear c00 c01 c02 c10 c11 c12
  refine (unhide H2 _ ((unhide HT).below (unhide HB2))).mono ?_
  unfold wrapped
  rintro e w3 ⟨rfl, hb⟩
  have HB3 := hide (below_then (unhide HB2) hb)
  have X0_3 := hide ((unhide X0_2).then hb)
  have X1_3 := hide ((unhide X1_2).then hb)
  clear hb HB2 X0_2 X1_2
  obtain ⟨c00, c01, c02, _⟩ := (unhide X0_3).cells
  obtain ⟨c10, c11, c12, _⟩ := (unhide X1_3).cells
  go_wp2_with fail
  go_quiet (fail)
  clear c00 c01 c02 c10 c11 c12
  have HBd := hide (below_drewN (unhide HB3) nq)
  have Xd0 := hide ((unhide X0_3).then (below_drewN (Below.refl _ _) nq))
  have Xd1 := hide ((unhide X1_3).then (below_drewN (Below.refl _ _) nq))
  clear HB3 X0_3 X1_3
  generalize w3.drewN nq = wd at *
  obtain ⟨c00, c01, c02, _⟩ := (unhide Xd0).cells
  obtain ⟨c10, c11, c12, _⟩ := (unhide Xd1).cells
  go_wp2_with fail
  clear c00 c01 c02 c10 c11 c12
  refine (unhide H3 _ ((unhide HT).below (unhide HBd))).mono ?_
  unfold sopened
  rintro e w4 ⟨rfl, hb⟩
  have HB4 := hide (below_then (unhide HBd) hb)
  have Xd0_4 := hide ((unhide Xd0).then hb)
  have Xd1_4 := hide ((unhide Xd1).then hb)
  clear hb HBd Xd0 Xd1
  have HB5 := hide (below_then (unhide HB4) (b_alloc w4 (.cells #[.int .i64 0, .int .i64 0, .int .i64 0] 23)))
  have Xd0_5 := hide ((unhide Xd0_4).then (b_alloc w4 (.cells #[.int .i64 0, .int .i64 0, .int .i64 0] 23)))
  have Xd1_5 := hide ((unhide Xd1_4).then (b_alloc w4 (.cells #[.int .i64 0, .int .i64 0, .int .i64 0] 23)))
  have X2 := hide (Bk.new w4 (.int .i64 0) (.int .i64 0) (.int .i64 0) 23)
  clear HB4 Xd0_4 Xd1_4
  obtain ⟨c00, c01, c02, _⟩ := (unhide Xd0_5).cells
  obtain ⟨c10, c11, c12, _⟩ := (unhide Xd1_5).cells
  obtain ⟨c20, c21, c22, _⟩ := (unhide X2).cells
  go_wp2
  go_ret
  exact ⟨rfl, unhide HB5⟩
set_option maxRecDepth 10000 in
set_option maxHeartbeats 2000000 in
theorem storn_a (G R S G2 R2 S2 : Int) (cut : Int) (w : World) (hT : Tab w) (s t : ByteArray) (c : Nat) (hcut : cut = (c : Int)) (hc : c ≤ 1024) (hG : ¬ G = G2) (h1 : swrapR G R S = (s, 0)) (h2 : swrapR G2 R2 S2 = (t, 0)) (z1 : s.size = 1024) (z2 : t.size = 1024) (u : ByteArray) (hu : s.extract 0 c ++ t.extract c 1024 = u) (h3 : sopenR u = (G, R, S, 0)) (hus : u = s) : Calls Tryd.prog 7 #[.agg #[.int .i64 G, .int .i64 R, .int .i64 S], .agg #[.int .i64 G2, .int .i64 R2, .int .i64 S2], .int .i64 cut] w fun e w' => e = .returned (.bool true) ∧ Below w.heap.size w w' := by
  have hA := fun W (hW : Tab W) => awake_any W hW
  have k1 := fun W (hW : Tab W) => swrap_any G R S W hW
  have k2 := fun W (hW : Tab W) => swrap_any G2 R2 S2 W hW
  rw [h1] at k1
  rw [h2] at k2
  subst hcut
  have g1 : (G == G2) = false := beq_eq_false_iff_ne.2 hG
  have g2 : (G2 == G) = false := beq_eq_false_iff_ne.2 (fun h => hG h.symm)
  have zc1 : ((s.extract 0 c).size : Int) ≤ 1024 := by rw [ByteArray.size_extract]; omega
  have ad : ∀ W, (Op.stringOp .add (s.extract 0 c) (t.extract c 1024)).run Tryd.prog W = .ok (.string u) W := fun W => by
    rw [← hu]
    exact add_run _ _ (by rw [ByteArray.size_extract, ByteArray.size_extract]; omega) W
  have k3 := fun W (hW : Tab W) => sopen_any u W hW
  rw [h3] at k3
  have H3 := hide k3
  clear k3 h3 hG hu zc1
  subst hus
  have HT := hide hT
  have HA := hide hA
  have H1 := hide k1
  have H2 := hide k2
  clear hT hA k1 k2 h1 h2
  go_enter Tryd.func7, Tryd.ntmps7
  go_wp2_with fail
  have HB0 := hide (below_then (b_alloc w (.cells #[.int .i64 G, .int .i64 R, .int .i64 S] 23)) (b_alloc (w.alloc (.cells #[.int .i64 G, .int .i64 R, .int .i64 S] 23)) (.cells #[.int .i64 G2, .int .i64 R2, .int .i64 S2] 23)))
  have X0 := hide ((Bk.new w (.int .i64 G) (.int .i64 R) (.int .i64 S) 23).then (b_alloc (w.alloc (.cells #[.int .i64 G, .int .i64 R, .int .i64 S] 23)) (.cells #[.int .i64 G2, .int .i64 R2, .int .i64 S2] 23)))
  have X1 := hide (Bk.new (w.alloc (.cells #[.int .i64 G, .int .i64 R, .int .i64 S] 23)) (.int .i64 G2) (.int .i64 R2) (.int .i64 S2) 23)
  have hsz : (w.alloc (.cells #[.int .i64 G, .int .i64 R, .int .i64 S] 23)).heap.size = w.heap.size + 1 := by simp
  rw [hsz] at X1
  clear hsz
  generalize ((w.alloc (.cells #[.int .i64 G, .int .i64 R, .int .i64 S] 23)).alloc (.cells #[.int .i64 G2, .int .i64 R2, .int .i64 S2] 23)) = w0 at *
  refine (unhide HA _ ((unhide HT).below (unhide HB0))).mono ?_
  rintro e w1 ⟨rfl, hb⟩
  have HB1 := hide (below_then (unhide HB0) hb)
  have X0_1 := hide ((unhide X0).then hb)
  have X1_1 := hide ((unhide X1).then hb)
  clear hb HB0 X0 X1
  obtain ⟨c00, c01, c02, _⟩ := (unhide X0_1).cells
  obtain ⟨c10, c11, c12, _⟩ := (unhide X1_1).cells
  go_wp2_with fail
  clear c00 c01 c02 c10 c11 c12
  refine (unhide H1 _ ((unhide HT).below (unhide HB1))).mono ?_
  unfold wrapped
  rintro e w2 ⟨rfl, hb⟩
  have HB2 := hide (below_then (unhide HB1) hb)
  have X0_2 := hide ((unhide X0_1).then hb)
  have X1_2 := hide ((unhide X1_1).then hb)
  clear hb HB1 X0_1 X1_1
  obtain ⟨c00, c01, c02, _⟩ := (unhide X0_2).cells
  obtain ⟨c10, c11, c12, _⟩ := (unhide X1_2).cells
  go_wp2_with fail
  clear c00 c01 c02 c10 c11 c12
  refine (unhide H2 _ ((unhide HT).below (unhide HB2))).mono ?_
  unfold wrapped
  rintro e w3 ⟨rfl, hb⟩
  have HB3 := hide (below_then (unhide HB2) hb)
  have X0_3 := hide ((unhide X0_2).then hb)
  have X1_3 := hide ((unhide X1_2).then hb)
  clear hb HB2 X0_2 X1_2
  obtain ⟨c00, c01, c02, _⟩ := (unhide X0_3).cells
  obtain ⟨c10, c11, c12, _⟩ := (unhide X1_3).cells
  go_wp2_with fail
  go_quiet (fail)
  clear c00 c01 c02 c10 c11 c12
  have HBd := hide (below_drewN (unhide HB3) nq)
  have Xd0 := hide ((unhide X0_3).then (below_drewN (Below.refl _ _) nq))
  have Xd1 := hide ((unhide X1_3).then (below_drewN (Below.refl _ _) nq))
  clear HB3 X0_3 X1_3
  generalize w3.drewN nq = wd at *
  obtain ⟨c00, c01, c02, _⟩ := (unhide Xd0).cells
  obtain ⟨c10, c11, c12, _⟩ := (unhide Xd1).cells
  go_wp2_with fail
  clear c00 c01 c02 c10 c11 c12
  refine (unhide H3 _ ((unhide HT).below (unhide HBd))).mono ?_
  unfold sopened
  rintro e w4 ⟨rfl, hb⟩
  have HB4 := hide (below_then (unhide HBd) hb)
  have Xd0_4 := hide ((unhide Xd0).then hb)
  have Xd1_4 := hide ((unhide Xd1).then hb)
  clear hb HBd Xd0 Xd1
  have HB5 := hide (below_then (unhide HB4) (b_alloc w4 (.cells #[.int .i64 G, .int .i64 R, .int .i64 S] 23)))
  have Xd0_5 := hide ((unhide Xd0_4).then (b_alloc w4 (.cells #[.int .i64 G, .int .i64 R, .int .i64 S] 23)))
  have Xd1_5 := hide ((unhide Xd1_4).then (b_alloc w4 (.cells #[.int .i64 G, .int .i64 R, .int .i64 S] 23)))
  have X2 := hide (Bk.new w4 (.int .i64 G) (.int .i64 R) (.int .i64 S) 23)
  clear HB4 Xd0_4 Xd1_4
  obtain ⟨c00, c01, c02, _⟩ := (unhide Xd0_5).cells
  obtain ⟨c10, c11, c12, _⟩ := (unhide Xd1_5).cells
  obtain ⟨c20, c21, c22, _⟩ := (unhide X2).cells
  go_wp2
  go_ret
  exact ⟨rfl, unhide HB5⟩
set_option maxRecDepth 10000 in
set_option maxHeartbeats 2000000 in
theorem storn_b (G R S G2 R2 S2 : Int) (cut : Int) (w : World) (hT : Tab w) (s t : ByteArray) (c : Nat) (hcut : cut = (c : Int)) (hc : c ≤ 1024) (hG : ¬ G = G2) (h1 : swrapR G R S = (s, 0)) (h2 : swrapR G2 R2 S2 = (t, 0)) (z1 : s.size = 1024) (z2 : t.size = 1024) (u : ByteArray) (hu : s.extract 0 c ++ t.extract c 1024 = u) (h3 : sopenR u = (G2, R2, S2, 0)) (hus : u = t) : Calls Tryd.prog 7 #[.agg #[.int .i64 G, .int .i64 R, .int .i64 S], .agg #[.int .i64 G2, .int .i64 R2, .int .i64 S2], .int .i64 cut] w fun e w' => e = .returned (.bool true) ∧ Below w.heap.size w w' := by
  have hA := fun W (hW : Tab W) => awake_any W hW
  have k1 := fun W (hW : Tab W) => swrap_any G R S W hW
  have k2 := fun W (hW : Tab W) => swrap_any G2 R2 S2 W hW
  rw [h1] at k1
  rw [h2] at k2
  subst hcut
  have g1 : (G == G2) = false := beq_eq_false_iff_ne.2 hG
  have g2 : (G2 == G) = false := beq_eq_false_iff_ne.2 (fun h => hG h.symm)
  have zc1 : ((s.extract 0 c).size : Int) ≤ 1024 := by rw [ByteArray.size_extract]; omega
  have ad : ∀ W, (Op.stringOp .add (s.extract 0 c) (t.extract c 1024)).run Tryd.prog W = .ok (.string u) W := fun W => by
    rw [← hu]
    exact add_run _ _ (by rw [ByteArray.size_extract, ByteArray.size_extract]; omega) W
  have k3 := fun W (hW : Tab W) => sopen_any u W hW
  rw [h3] at k3
  have H3 := hide k3
  clear k3 h3 hG hu zc1
  subst hus
  have HT := hide hT
  have HA := hide hA
  have H1 := hide k1
  have H2 := hide k2
  clear hT hA k1 k2 h1 h2
  go_enter Tryd.func7, Tryd.ntmps7
  go_wp2_with fail
  have HB0 := hide (below_then (b_alloc w (.cells #[.int .i64 G, .int .i64 R, .int .i64 S] 23)) (b_alloc (w.alloc (.cells #[.int .i64 G, .int .i64 R, .int .i64 S] 23)) (.cells #[.int .i64 G2, .int .i64 R2, .int .i64 S2] 23)))
  have X0 := hide ((Bk.new w (.int .i64 G) (.int .i64 R) (.int .i64 S) 23).then (b_alloc (w.alloc (.cells #[.int .i64 G, .int .i64 R, .int .i64 S] 23)) (.cells #[.int .i64 G2, .int .i64 R2, .int .i64 S2] 23)))
  have X1 := hide (Bk.new (w.alloc (.cells #[.int .i64 G, .int .i64 R, .int .i64 S] 23)) (.int .i64 G2) (.int .i64 R2) (.int .i64 S2) 23)
  have hsz : (w.alloc (.cells #[.int .i64 G, .int .i64 R, .int .i64 S] 23)).heap.size = w.heap.size + 1 := by simp
  rw [hsz] at X1
  clear hsz
  generalize ((w.alloc (.cells #[.int .i64 G, .int .i64 R, .int .i64 S] 23)).alloc (.cells #[.int .i64 G2, .int .i64 R2, .int .i64 S2] 23)) = w0 at *
  refine (unhide HA _ ((unhide HT).below (unhide HB0))).mono ?_
  rintro e w1 ⟨rfl, hb⟩
  have HB1 := hide (below_then (unhide HB0) hb)
  have X0_1 := hide ((unhide X0).then hb)
  have X1_1 := hide ((unhide X1).then hb)
  clear hb HB0 X0 X1
  obtain ⟨c00, c01, c02, _⟩ := (unhide X0_1).cells
  obtain ⟨c10, c11, c12, _⟩ := (unhide X1_1).cells
  go_wp2_with fail
  clear c00 c01 c02 c10 c11 c12
  refine (unhide H1 _ ((unhide HT).below (unhide HB1))).mono ?_
  unfold wrapped
  rintro e w2 ⟨rfl, hb⟩
  have HB2 := hide (below_then (unhide HB1) hb)
  have X0_2 := hide ((unhide X0_1).then hb)
  have X1_2 := hide ((unhide X1_1).then hb)
  clear hb HB1 X0_1 X1_1
  obtain ⟨c00, c01, c02, _⟩ := (unhide X0_2).cells
  obtain ⟨c10, c11, c12, _⟩ := (unhide X1_2).cells
  go_wp2_with fail
  clear c00 c01 c02 c10 c11 c12
  refine (unhide H2 _ ((unhide HT).below (unhide HB2))).mono ?_
  unfold wrapped
  rintro e w3 ⟨rfl, hb⟩
  have HB3 := hide (below_then (unhide HB2) hb)
  have X0_3 := hide ((unhide X0_2).then hb)
  have X1_3 := hide ((unhide X1_2).then hb)
  clear hb HB2 X0_2 X1_2
  obtain ⟨c00, c01, c02, _⟩ := (unhide X0_3).cells
  obtain ⟨c10, c11, c12, _⟩ := (unhide X1_3).cells
  go_wp2_with fail
  go_quiet (fail)
  clear c00 c01 c02 c10 c11 c12
  have HBd := hide (below_drewN (unhide HB3) nq)
  have Xd0 := hide ((unhide X0_3).then (below_drewN (Below.refl _ _) nq))
  have Xd1 := hide ((unhide X1_3).then (below_drewN (Below.refl _ _) nq))
  clear HB3 X0_3 X1_3
  generalize w3.drewN nq = wd at *
  obtain ⟨c00, c01, c02, _⟩ := (unhide Xd0).cells
  obtain ⟨c10, c11, c12, _⟩ := (unhide Xd1).cells
  go_wp2_with fail
  clear c00 c01 c02 c10 c11 c12
  refine (unhide H3 _ ((unhide HT).below (unhide HBd))).mono ?_
  unfold sopened
  rintro e w4 ⟨rfl, hb⟩
  have HB4 := hide (below_then (unhide HBd) hb)
  have Xd0_4 := hide ((unhide Xd0).then hb)
  have Xd1_4 := hide ((unhide Xd1).then hb)
  clear hb HBd Xd0 Xd1
  have HB5 := hide (below_then (unhide HB4) (b_alloc w4 (.cells #[.int .i64 G2, .int .i64 R2, .int .i64 S2] 23)))
  have Xd0_5 := hide ((unhide Xd0_4).then (b_alloc w4 (.cells #[.int .i64 G2, .int .i64 R2, .int .i64 S2] 23)))
  have Xd1_5 := hide ((unhide Xd1_4).then (b_alloc w4 (.cells #[.int .i64 G2, .int .i64 R2, .int .i64 S2] 23)))
  have X2 := hide (Bk.new w4 (.int .i64 G2) (.int .i64 R2) (.int .i64 S2) 23)
  clear HB4 Xd0_4 Xd1_4
  obtain ⟨c00, c01, c02, _⟩ := (unhide Xd0_5).cells
  obtain ⟨c10, c11, c12, _⟩ := (unhide Xd1_5).cells
  obtain ⟨c20, c21, c22, _⟩ := (unhide X2).cells
  go_wp2
  go_ret
  exact ⟨rfl, unhide HB5⟩
theorem storn_any (G R S G2 R2 S2 : Int) (cut : Int) (w : World) (hT : Tab w) : Calls Tryd.prog 7 #[.agg #[.int .i64 G, .int .i64 R, .int .i64 S], .agg #[.int .i64 G2, .int .i64 R2, .int .i64 S2], .int .i64 cut] w fun e w' => e = .returned (.bool true) ∧ Below w.heap.size w w' := by
  by_cases ma : MayB G R S
  · by_cases mb : MayB G2 R2 S2
    · have h1 : swrapR G R S = ((swrapR G R S).1, 0) := by rw [swrapR_ok ma]
      have h2 : swrapR G2 R2 S2 = ((swrapR G2 R2 S2).1, 0) := by rw [swrapR_ok mb]
      by_cases hG : G = G2
      · exact storn_g G R S G2 R2 S2 cut w hT _ _ hG h1 h2
      · by_cases c0 : cut < 0
        · exact storn_lo G R S G2 R2 S2 cut w hT _ _ hG c0 h1 h2
        · by_cases c1 : 1024 < cut
          · exact storn_hi G R S G2 R2 S2 cut w hT _ _ hG (by omega) c1 h1 h2
          · obtain ⟨c, rfl⟩ := Int.eq_ofNat_of_zero_le (show 0 ≤ cut by omega)
            have hc : c ≤ 1024 := by omega
            rcases torn_out ma mb hG c hc with h | ⟨h, h3⟩ | ⟨h, h3⟩
            · obtain ⟨e1, e2, e3⟩ := sopenR_err h
              refine storn_no G R S G2 R2 S2 c w hT _ _ c rfl hc hG h1 h2 (swrapR_size ma) (swrapR_size mb) _ rfl _ h ?_
              exact Prod.ext e1 (Prod.ext e2 (Prod.ext e3 rfl))
            · exact storn_a G R S G2 R2 S2 c w hT _ _ c rfl hc hG h1 h2 (swrapR_size ma) (swrapR_size mb) _ rfl h3 h
            · exact storn_b G R S G2 R2 S2 c w hT _ _ c rfl hc hG h1 h2 (swrapR_size ma) (swrapR_size mb) _ rfl h3 h
    · exact storn_f G R S G2 R2 S2 cut w hT (swrapR G R S).1 ⟨#[]⟩ 101 (by decide) (by rw [swrapR_ok ma]) (swrapR_no mb)
  · exact storn_e G R S G2 R2 S2 cut w hT ⟨#[]⟩ (swrapR G2 R2 S2).1 101 (swrapR G2 R2 S2).2 (by decide) (swrapR_no ma) rfl
end Go.Proofs.YtdkgifjmahkiaaaDoor
