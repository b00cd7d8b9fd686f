/- The walk of the law SuperBack. -/
import Derived.Test.YtdkgifjmahkiaaaDoorSa
namespace Go.Proofs.YtdkgifjmahkiaaaDoor
open Go.ChangeShapes Go.WideShapes Go.ChangeAt Go.RowKit
open L4

set_option maxRecDepth 10000 in
set_option maxHeartbeats 2000000 in
theorem sback_t (G R S : Int) (t : ByteArray) (w : World) (hT : Tab w) (ht : 4096 < t.size) (hl : t.size ≤ 9223372036854775807) : Calls Tryd.prog 5 #[.agg #[.int .i64 G, .int .i64 R, .int .i64 S], .string t] w fun e w' => e = .returned (.bool true) ∧ Below w.heap.size w w' := by
  have hA := fun W (hW : Tab W) => awake_any W hW
  have HT := hide hT
  have HA := hide hA
  clear hT hA
  go_enter Tryd.func5, Tryd.ntmps5
  go_wp2_with fail
  have HB0 := hide (b_alloc w (.cells #[.int .i64 G, .int .i64 R, .int .i64 S] 23))
  have X0 := hide (Bk.new w (.int .i64 G) (.int .i64 R) (.int .i64 S) 23)
  generalize w.alloc (.cells #[.int .i64 G, .int .i64 R, .int .i64 S] 23) = w0 at *
  refine (unhide HA _ ((unhide HT).below (unhide HB0))).mono ?_
  rintro e w1 ⟨rfl, hb⟩
  have HB1 := hide (below_then (unhide HB0) hb)
  have X0_1 := hide ((unhide X0).then hb)
  clear hb HB0 X0
  obtain ⟨c00, c01, c02, _⟩ := (unhide X0_1).cells
  go_wp2
  go_ret
  exact ⟨rfl, unhide HB1⟩
set_option maxRecDepth 10000 in
set_option maxHeartbeats 2000000 in
theorem sback_00 (G R S : Int) (t : ByteArray) (w : World) (hT : Tab w) (ht : t.size ≤ 4096) (u : ByteArray) (x y z : Int) (h1 : swrapR G R S = (u, 0)) (h2 : sopenR u = (G, R, S, 0)) (h3 : sopenR t = (x, y, z, 0)) (h4 : swrapR x y z = (t, 0)) : Calls Tryd.prog 5 #[.agg #[.int .i64 G, .int .i64 R, .int .i64 S], .string t] w fun e w' => e = .returned (.bool true) ∧ Below w.heap.size w w' := by
  have hA := fun W (hW : Tab W) => awake_any W hW
  have k1 := fun W (hW : Tab W) => swrap_any G R S W hW
  rw [h1] at k1
  have k2 := fun W (hW : Tab W) => sopen_any u W hW
  rw [h2] at k2
  have k3 := fun W (hW : Tab W) => sopen_any t W hW
  rw [h3] at k3
  have k4 := fun W (hW : Tab W) => swrap_any x y z W hW
  rw [h4] at k4
  have HT := hide hT
  have HA := hide hA
  have H1 := hide k1
  have H2 := hide k2
  have H3 := hide k3
  have H4 := hide k4
  clear hT hA h1 h2 h3 h4 k1 k2 k3 k4
  go_enter Tryd.func5, Tryd.ntmps5
  go_wp2_with fail
  have HB0 := hide (b_alloc w (.cells #[.int .i64 G, .int .i64 R, .int .i64 S] 23))
  have X0 := hide (Bk.new w (.int .i64 G) (.int .i64 R) (.int .i64 S) 23)
  generalize w.alloc (.cells #[.int .i64 G, .int .i64 R, .int .i64 S] 23) = w0 at *
  refine (unhide HA _ ((unhide HT).below (unhide HB0))).mono ?_
  rintro e w1 ⟨rfl, hb⟩
  have HB1 := hide (below_then (unhide HB0) hb)
  have X0_1 := hide ((unhide X0).then hb)
  clear hb HB0 X0
  obtain ⟨c00, c01, c02, _⟩ := (unhide X0_1).cells
  go_wp2_with fail
  clear c00 c01 c02
  refine (unhide H1 _ ((unhide HT).below (unhide HB1))).mono ?_
  unfold wrapped
  rintro e w2 ⟨rfl, hb⟩
  have HB2 := hide (below_then (unhide HB1) hb)
  have X0_2 := hide ((unhide X0_1).then hb)
  clear hb HB1 X0_1
  obtain ⟨c00, c01, c02, _⟩ := (unhide X0_2).cells
  go_wp2_with fail
  clear c00 c01 c02
  refine (unhide H2 _ ((unhide HT).below (unhide HB2))).mono ?_
  unfold sopened
  rintro e w3 ⟨rfl, hb⟩
  have HB3 := hide (below_then (unhide HB2) hb)
  have X0_3 := hide ((unhide X0_2).then hb)
  clear hb HB2 X0_2
  have HB4 := hide (below_then (unhide HB3) (b_alloc w3 (.cells #[.int .i64 G, .int .i64 R, .int .i64 S] 23)))
  have X0_4 := hide ((unhide X0_3).then (b_alloc w3 (.cells #[.int .i64 G, .int .i64 R, .int .i64 S] 23)))
  have X1 := hide (Bk.new w3 (.int .i64 G) (.int .i64 R) (.int .i64 S) 23)
  clear HB3 X0_3
  obtain ⟨c00, c01, c02, _⟩ := (unhide X0_4).cells
  obtain ⟨c10, c11, c12, _⟩ := (unhide X1).cells
  go_wp2_with fail
  clear c00 c01 c02 c10 c11 c12
  obtain ⟨b1, hbe⟩ : ∃ b, b = w3.heap.size := ⟨_, rfl⟩
  rw [← hbe] at X1 ⊢
  clear hbe
  generalize w3.alloc (.cells #[.int .i64 G, .int .i64 R, .int .i64 S] 23) = w5 at *
  refine (unhide H3 _ ((unhide HT).below (unhide HB4))).mono ?_
  unfold sopened
  rintro e w6 ⟨rfl, hb⟩
  have HB6 := hide (below_then (unhide HB4) hb)
  have X0_6 := hide ((unhide X0_4).then hb)
  have X1_6 := hide ((unhide X1).then hb)
  clear hb HB4 X0_4 X1
  have HB7 := hide (below_then (unhide HB6) (b_alloc w6 (.cells #[.int .i64 x, .int .i64 y, .int .i64 z] 23)))
  have X0_7 := hide ((unhide X0_6).then (b_alloc w6 (.cells #[.int .i64 x, .int .i64 y, .int .i64 z] 23)))
  have X1_7 := hide ((unhide X1_6).then (b_alloc w6 (.cells #[.int .i64 x, .int .i64 y, .int .i64 z] 23)))
  have X2 := hide (Bk.new w6 (.int .i64 x) (.int .i64 y) (.int .i64 z) 23)
  clear HB6 X0_6 X1_6
  obtain ⟨c00, c01, c02, _⟩ := (unhide X0_7).cells
  obtain ⟨c10, c11, c12, _⟩ := (unhide X1_7).cells
  obtain ⟨c20, c21, c22, _⟩ := (unhide X2).cells
  go_wp2_with fail
  clear c00 c01 c02 c10 c11 c12 c20 c21 c22
  obtain ⟨b2, hbe⟩ : ∃ b, b = w6.heap.size := ⟨_, rfl⟩
  rw [← hbe] at X2 ⊢
  clear hbe
  generalize w6.alloc (.cells #[.int .i64 x, .int .i64 y, .int .i64 z] 23) = w8 at *
  refine (unhide H4 _ ((unhide HT).below (unhide HB7))).mono ?_
  unfold wrapped
  rintro e w9 ⟨rfl, hb⟩
  have HB9 := hide (below_then (unhide HB7) hb)
  have X0_9 := hide ((unhide X0_7).then hb)
  have X1_9 := hide ((unhide X1_7).then hb)
  have X2_9 := hide ((unhide X2).then hb)
  clear hb HB7 X0_7 X1_7 X2
  obtain ⟨c00, c01, c02, _⟩ := (unhide X0_9).cells
  obtain ⟨c10, c11, c12, _⟩ := (unhide X1_9).cells
  obtain ⟨c20, c21, c22, _⟩ := (unhide X2_9).cells
  go_wp2
  go_ret
  exact ⟨rfl, unhide HB9⟩
set_option maxRecDepth 10000 in
set_option maxHeartbeats 2000000 in
theorem sback_01 (G R S : Int) (t : ByteArray) (w : World) (hT : Tab w) (ht : t.size ≤ 4096) (u : ByteArray) (x y z : Int) (h1 : swrapR G R S = (u, 0)) (h2 : sopenR u = (G, R, S, 0)) (F : Nat) (hF : F ≠ 0) (h3 : sopenR t = (x, y, z, F)) (v : ByteArray) (D : Nat) (h4 : swrapR x y z = (v, D)) : Calls Tryd.prog 5 #[.agg #[.int .i64 G, .int .i64 R, .int .i64 S], .string t] w fun e w' => e = .returned (.bool true) ∧ Below w.heap.size w w' := by
  have hA := fun W (hW : Tab W) => awake_any W hW
  have k1 := fun W (hW : Tab W) => swrap_any G R S W hW
  rw [h1] at k1
  have k2 := fun W (hW : Tab W) => sopen_any u W hW
  rw [h2] at k2
  have k3 := fun W (hW : Tab W) => sopen_any t W hW
  rw [h3] at k3
  have k4 := fun W (hW : Tab W) => swrap_any x y z W hW
  rw [h4] at k4
  have f1 : ((F : Int) == 0) = false := beq_eq_false_iff_ne.2 (by omega)
  have f2 : ((F : Int) != 0) = true := bne_iff_ne.2 (by omega)
  clear hF
  have HT := hide hT
  have HA := hide hA
  have H1 := hide k1
  have H2 := hide k2
  have H3 := hide k3
  have H4 := hide k4
  clear hT hA h1 h2 h3 h4 k1 k2 k3 k4
  go_enter Tryd.func5, Tryd.ntmps5
  go_wp2_with fail
  have HB0 := hide (b_alloc w (.cells #[.int .i64 G, .int .i64 R, .int .i64 S] 23))
  have X0 := hide (Bk.new w (.int .i64 G) (.int .i64 R) (.int .i64 S) 23)
  generalize w.alloc (.cells #[.int .i64 G, .int .i64 R, .int .i64 S] 23) = w0 at *
  refine (unhide HA _ ((unhide HT).below (unhide HB0))).mono ?_
  rintro e w1 ⟨rfl, hb⟩
  have HB1 := hide (below_then (unhide HB0) hb)
  have X0_1 := hide ((unhide X0).then hb)
  clear hb HB0 X0
  obtain ⟨c00, c01, c02, _⟩ := (unhide X0_1).cells
  go_wp2_with fail
  clear c00 c01 c02
  refine (unhide H1 _ ((unhide HT).below (unhide HB1))).mono ?_
  unfold wrapped
  rintro e w2 ⟨rfl, hb⟩
  have HB2 := hide (below_then (unhide HB1) hb)
  have X0_2 := hide ((unhide X0_1).then hb)
  clear hb HB1 X0_1
  obtain ⟨c00, c01, c02, _⟩ := (unhide X0_2).cells
  go_wp2_with fail
  clear c00 c01 c02
  refine (unhide H2 _ ((unhide HT).below (unhide HB2))).mono ?_
  unfold sopened
  rintro e w3 ⟨rfl, hb⟩
  have HB3 := hide (below_then (unhide HB2) hb)
  have X0_3 := hide ((unhide X0_2).then hb)
  clear hb HB2 X0_2
  have HB4 := hide (below_then (unhide HB3) (b_alloc w3 (.cells #[.int .i64 G, .int .i64 R, .int .i64 S] 23)))
  have X0_4 := hide ((unhide X0_3).then (b_alloc w3 (.cells #[.int .i64 G, .int .i64 R, .int .i64 S] 23)))
  have X1 := hide (Bk.new w3 (.int .i64 G) (.int .i64 R) (.int .i64 S) 23)
  clear HB3 X0_3
  obtain ⟨c00, c01, c02, _⟩ := (unhide X0_4).cells
  obtain ⟨c10, c11, c12, _⟩ := (unhide X1).cells
  go_wp2_with fail
  clear c00 c01 c02 c10 c11 c12
  obtain ⟨b1, hbe⟩ : ∃ b, b = w3.heap.size := ⟨_, rfl⟩
  rw [← hbe] at X1 ⊢
  clear hbe
  generalize w3.alloc (.cells #[.int .i64 G, .int .i64 R, .int .i64 S] 23) = w5 at *
  refine (unhide H3 _ ((unhide HT).below (unhide HB4))).mono ?_
  unfold sopened
  rintro e w6 ⟨rfl, hb⟩
  have HB6 := hide (below_then (unhide HB4) hb)
  have X0_6 := hide ((unhide X0_4).then hb)
  have X1_6 := hide ((unhide X1).then hb)
  clear hb HB4 X0_4 X1
  have HB7 := hide (below_then (unhide HB6) (b_alloc w6 (.cells #[.int .i64 x, .int .i64 y, .int .i64 z] 23)))
  have X0_7 := hide ((unhide X0_6).then (b_alloc w6 (.cells #[.int .i64 x, .int .i64 y, .int .i64 z] 23)))
  have X1_7 := hide ((unhide X1_6).then (b_alloc w6 (.cells #[.int .i64 x, .int .i64 y, .int .i64 z] 23)))
  have X2 := hide (Bk.new w6 (.int .i64 x) (.int .i64 y) (.int .i64 z) 23)
  clear HB6 X0_6 X1_6
  obtain ⟨c00, c01, c02, _⟩ := (unhide X0_7).cells
  obtain ⟨c10, c11, c12, _⟩ := (unhide X1_7).cells
  obtain ⟨c20, c21, c22, _⟩ := (unhide X2).cells
  go_wp2_with fail
  clear c00 c01 c02 c10 c11 c12 c20 c21 c22
  obtain ⟨b2, hbe⟩ : ∃ b, b = w6.heap.size := ⟨_, rfl⟩
  rw [← hbe] at X2 ⊢
  clear hbe
  generalize w6.alloc (.cells #[.int .i64 x, .int .i64 y, .int .i64 z] 23) = w8 at *
  refine (unhide H4 _ ((unhide HT).below (unhide HB7))).mono ?_
  unfold wrapped
  rintro e w9 ⟨rfl, hb⟩
  have HB9 := hide (below_then (unhide HB7) hb)
  have X0_9 := hide ((unhide X0_7).then hb)
  have X1_9 := hide ((unhide X1_7).then hb)
  have X2_9 := hide ((unhide X2).then hb)
  clear hb HB7 X0_7 X1_7 X2
  obtain ⟨c00, c01, c02, _⟩ := (unhide X0_9).cells
  obtain ⟨c10, c11, c12, _⟩ := (unhide X1_9).cells
  obtain ⟨c20, c21, c22, _⟩ := (unhide X2_9).cells
  go_wp2
  go_ret
  exact ⟨rfl, unhide HB9⟩
set_option maxRecDepth 10000 in
set_option maxHeartbeats 2000000 in
theorem sback_10 (G R S : Int) (t : ByteArray) (w : World) (hT : Tab w) (ht : t.size ≤ 4096) (_u : ByteArray) (x y z : Int) (E : Nat) (hE : E ≠ 0) (h1 : swrapR G R S = (⟨#[]⟩, E)) (h2 : sopenR ⟨#[]⟩ = (0, 0, 0, 32)) (h3 : sopenR t = (x, y, z, 0)) (h4 : swrapR x y z = (t, 0)) : Calls Tryd.prog 5 #[.agg #[.int .i64 G, .int .i64 R, .int .i64 S], .string t] w fun e w' => e = .returned (.bool true) ∧ Below w.heap.size w w' := by
  have hA := fun W (hW : Tab W) => awake_any W hW
  have k1 := fun W (hW : Tab W) => swrap_any G R S W hW
  rw [h1] at k1
  have k2 := fun W (hW : Tab W) => sopen_any ⟨#[]⟩ W hW
  rw [h2] at k2
  have k3 := fun W (hW : Tab W) => sopen_any t W hW
  rw [h3] at k3
  have k4 := fun W (hW : Tab W) => swrap_any x y z W hW
  rw [h4] at k4
  have e1 : ((E : Int) == 0) = false := beq_eq_false_iff_ne.2 (by omega)
  have e2 : ((E : Int) != 0) = true := bne_iff_ne.2 (by omega)
  clear hE
  have HT := hide hT
  have HA := hide hA
  have H1 := hide k1
  have H2 := hide k2
  have H3 := hide k3
  have H4 := hide k4
  clear hT hA h1 h2 h3 h4 k1 k2 k3 k4
  go_enter Tryd.func5, Tryd.ntmps5
  go_wp2_with fail
  have HB0 := hide (b_alloc w (.cells #[.int .i64 G, .int .i64 R, .int .i64 S] 23))
  have X0 := hide (Bk.new w (.int .i64 G) (.int .i64 R) (.int .i64 S) 23)
  generalize w.alloc (.cells #[.int .i64 G, .int .i64 R, .int .i64 S] 23) = w0 at *
  refine (unhide HA _ ((unhide HT).below (unhide HB0))).mono ?_
  rintro e w1 ⟨rfl, hb⟩
  have HB1 := hide (below_then (unhide HB0) hb)
  have X0_1 := hide ((unhide X0).then hb)
  clear hb HB0 X0
  obtain ⟨c00, c01, c02, _⟩ := (unhide X0_1).cells
  go_wp2_with fail
  clear c00 c01 c02
  refine (unhide H1 _ ((unhide HT).below (unhide HB1))).mono ?_
  unfold wrapped
  rintro e w2 ⟨rfl, hb⟩
  have HB2 := hide (below_then (unhide HB1) hb)
  have X0_2 := hide ((unhide X0_1).then hb)
  clear hb HB1 X0_1
  obtain ⟨c00, c01, c02, _⟩ := (unhide X0_2).cells
  go_wp2_with fail
  clear c00 c01 c02
  refine (unhide H2 _ ((unhide HT).below (unhide HB2))).mono ?_
  unfold sopened
  rintro e w3 ⟨rfl, hb⟩
  have HB3 := hide (below_then (unhide HB2) hb)
  have X0_3 := hide ((unhide X0_2).then hb)
  clear hb HB2 X0_2
  have HB4 := hide (below_then (unhide HB3) (b_alloc w3 (.cells #[.int .i64 0, .int .i64 0, .int .i64 0] 23)))
  have X0_4 := hide ((unhide X0_3).then (b_alloc w3 (.cells #[.int .i64 0, .int .i64 0, .int .i64 0] 23)))
  have X1 := hide (Bk.new w3 (.int .i64 0) (.int .i64 0) (.int .i64 0) 23)
  clear HB3 X0_3
  obtain ⟨c00, c01, c02, _⟩ := (unhide X0_4).cells
  obtain ⟨c10, c11, c12, _⟩ := (unhide X1).cells
  go_wp2_with fail
  clear c00 c01 c02 c10 c11 c12
  obtain ⟨b1, hbe⟩ : ∃ b, b = w3.heap.size := ⟨_, rfl⟩
  rw [← hbe] at X1 ⊢
  clear hbe
  generalize w3.alloc (.cells #[.int .i64 0, .int .i64 0, .int .i64 0] 23) = w5 at *
  refine (unhide H3 _ ((unhide HT).below (unhide HB4))).mono ?_
  unfold sopened
  rintro e w6 ⟨rfl, hb⟩
  have HB6 := hide (below_then (unhide HB4) hb)
  have X0_6 := hide ((unhide X0_4).then hb)
  have X1_6 := hide ((unhide X1).then hb)
  clear hb HB4 X0_4 X1
  have HB7 := hide (below_then (unhide HB6) (b_alloc w6 (.cells #[.int .i64 x, .int .i64 y, .int .i64 z] 23)))
  have X0_7 := hide ((unhide X0_6).then (b_alloc w6 (.cells #[.int .i64 x, .int .i64 y, .int .i64 z] 23)))
  have X1_7 := hide ((unhide X1_6).then (b_alloc w6 (.cells #[.int .i64 x, .int .i64 y, .int .i64 z] 23)))
  have X2 := hide (Bk.new w6 (.int .i64 x) (.int .i64 y) (.int .i64 z) 23)
  clear HB6 X0_6 X1_6
  obtain ⟨c00, c01, c02, _⟩ := (unhide X0_7).cells
  obtain ⟨c10, c11, c12, _⟩ := (unhide X1_7).cells
  obtain ⟨c20, c21, c22, _⟩ := (unhide X2).cells
  go_wp2_with fail
  clear c00 c01 c02 c10 c11 c12 c20 c21 c22
  obtain ⟨b2, hbe⟩ : ∃ b, b = w6.heap.size := ⟨_, rfl⟩
  rw [← hbe] at X2 ⊢
  clear hbe
  generalize w6.alloc (.cells #[.int .i64 x, .int .i64 y, .int .i64 z] 23) = w8 at *
  refine (unhide H4 _ ((unhide HT).below (unhide HB7))).mono ?_
  unfold wrapped
  rintro e w9 ⟨rfl, hb⟩
  have HB9 := hide (below_then (unhide HB7) hb)
  have X0_9 := hide ((unhide X0_7).then hb)
  have X1_9 := hide ((unhide X1_7).then hb)
  have X2_9 := hide ((unhide X2).then hb)
  clear hb HB7 X0_7 X1_7 X2
  obtain ⟨c00, c01, c02, _⟩ := (unhide X0_9).cells
  obtain ⟨c10, c11, c12, _⟩ := (unhide X1_9).cells
  obtain ⟨c20, c21, c22, _⟩ := (unhide X2_9).cells
  go_wp2
  go_ret
  exact ⟨rfl, unhide HB9⟩
set_option maxRecDepth 10000 in
set_option maxHeartbeats 2000000 in
theorem sback_11 (G R S : Int) (t : ByteArray) (w : World) (hT : Tab w) (ht : t.size ≤ 4096) (_u : ByteArray) (x y z : Int) (E : Nat) (hE : E ≠ 0) (h1 : swrapR G R S = (⟨#[]⟩, E)) (h2 : sopenR ⟨#[]⟩ = (0, 0, 0, 32)) (F : Nat) (hF : F ≠ 0) (h3 : sopenR t = (x, y, z, F)) (v : ByteArray) (D : Nat) (h4 : swrapR x y z = (v, D)) : Calls Tryd.prog 5 #[.agg #[.int .i64 G, .int .i64 R, .int .i64 S], .string t] w fun e w' => e = .returned (.bool true) ∧ Below w.heap.size w w' := by
  have hA := fun W (hW : Tab W) => awake_any W hW
  have k1 := fun W (hW : Tab W) => swrap_any G R S W hW
  rw [h1] at k1
  have k2 := fun W (hW : Tab W) => sopen_any ⟨#[]⟩ W hW
  rw [h2] at k2
  have k3 := fun W (hW : Tab W) => sopen_any t W hW
  rw [h3] at k3
  have k4 := fun W (hW : Tab W) => swrap_any x y z W hW
  rw [h4] at k4
  have e1 : ((E : Int) == 0) = false := beq_eq_false_iff_ne.2 (by omega)
  have e2 : ((E : Int) != 0) = true := bne_iff_ne.2 (by omega)
  clear hE
  have f1 : ((F : Int) == 0) = false := beq_eq_false_iff_ne.2 (by omega)
  have f2 : ((F : Int) != 0) = true := bne_iff_ne.2 (by omega)
  clear hF
  have HT := hide hT
  have HA := hide hA
  have H1 := hide k1
  have H2 := hide k2
  have H3 := hide k3
  have H4 := hide k4
  clear hT hA h1 h2 h3 h4 k1 k2 k3 k4
  go_enter Tryd.func5, Tryd.ntmps5
  go_wp2_with fail
  have HB0 := hide (b_alloc w (.cells #[.int .i64 G, .int .i64 R, .int .i64 S] 23))
  have X0 := hide (Bk.new w (.int .i64 G) (.int .i64 R) (.int .i64 S) 23)
  generalize w.alloc (.cells #[.int .i64 G, .int .i64 R, .int .i64 S] 23) = w0 at *
  refine (unhide HA _ ((unhide HT).below (unhide HB0))).mono ?_
  rintro e w1 ⟨rfl, hb⟩
  have HB1 := hide (below_then (unhide HB0) hb)
  have X0_1 := hide ((unhide X0).then hb)
  clear hb HB0 X0
  obtain ⟨c00, c01, c02, _⟩ := (unhide X0_1).cells
  go_wp2_with fail
  clear c00 c01 c02
  refine (unhide H1 _ ((unhide HT).below (unhide HB1))).mono ?_
  unfold wrapped
  rintro e w2 ⟨rfl, hb⟩
  have HB2 := hide (below_then (unhide HB1) hb)
  have X0_2 := hide ((unhide X0_1).then hb)
  clear hb HB1 X0_1
  obtain ⟨c00, c01, c02, _⟩ := (unhide X0_2).cells
  go_wp2_with fail
  clear c00 c01 c02
  refine (unhide H2 _ ((unhide HT).below (unhide HB2))).mono ?_
  unfold sopened
  rintro e w3 ⟨rfl, hb⟩
  have HB3 := hide (below_then (unhide HB2) hb)
  have X0_3 := hide ((unhide X0_2).then hb)
  clear hb HB2 X0_2
  have HB4 := hide (below_then (unhide HB3) (b_alloc w3 (.cells #[.int .i64 0, .int .i64 0, .int .i64 0] 23)))
  have X0_4 := hide ((unhide X0_3).then (b_alloc w3 (.cells #[.int .i64 0, .int .i64 0, .int .i64 0] 23)))
  have X1 := hide (Bk.new w3 (.int .i64 0) (.int .i64 0) (.int .i64 0) 23)
  clear HB3 X0_3
  obtain ⟨c00, c01, c02, _⟩ := (unhide X0_4).cells
  obtain ⟨c10, c11, c12, _⟩ := (unhide X1).cells
  go_wp2_with fail
  clear c00 c01 c02 c10 c11 c12
  obtain ⟨b1, hbe⟩ : ∃ b, b = w3.heap.size := ⟨_, rfl⟩
  rw [← hbe] at X1 ⊢
  clear hbe
  generalize w3.alloc (.cells #[.int .i64 0, .int .i64 0, .int .i64 0] 23) = w5 at *
  refine (unhide H3 _ ((unhide HT).below (unhide HB4))).mono ?_
  unfold sopened
  rintro e w6 ⟨rfl, hb⟩
  have HB6 := hide (below_then (unhide HB4) hb)
  have X0_6 := hide ((unhide X0_4).then hb)
  have X1_6 := hide ((unhide X1).then hb)
  clear hb HB4 X0_4 X1
  have HB7 := hide (below_then (unhide HB6) (b_alloc w6 (.cells #[.int .i64 x, .int .i64 y, .int .i64 z] 23)))
  have X0_7 := hide ((unhide X0_6).then (b_alloc w6 (.cells #[.int .i64 x, .int .i64 y, .int .i64 z] 23)))
  have X1_7 := hide ((unhide X1_6).then (b_alloc w6 (.cells #[.int .i64 x, .int .i64 y, .int .i64 z] 23)))
  have X2 := hide (Bk.new w6 (.int .i64 x) (.int .i64 y) (.int .i64 z) 23)
  clear HB6 X0_6 X1_6
  obtain ⟨c00, c01, c02, _⟩ := (unhide X0_7).cells
  obtain ⟨c10, c11, c12, _⟩ := (unhide X1_7).cells
  obtain ⟨c20, c21, c22, _⟩ := (unhide X2).cells
  go_wp2_with fail
  clear c00 c01 c02 c10 c11 c12 c20 c21 c22
  obtain ⟨b2, hbe⟩ : ∃ b, b = w6.heap.size := ⟨_, rfl⟩
  rw [← hbe] at X2 ⊢
  clear hbe
  generalize w6.alloc (.cells #[.int .i64 x, .int .i64 y, .int .i64 z] 23) = w8 at *
  refine (unhide H4 _ ((unhide HT).below (unhide HB7))).mono ?_
  unfold wrapped
  rintro e w9 ⟨rfl, hb⟩
  have HB9 := hide (below_then (unhide HB7) hb)
  have X0_9 := hide ((unhide X0_7).then hb)
  have X1_9 := hide ((unhide X1_7).then hb)
  have X2_9 := hide ((unhide X2).then hb)
  clear hb HB7 X0_7 X1_7 X2
  obtain ⟨c00, c01, c02, _⟩ := (unhide X0_9).cells
  obtain ⟨c10, c11, c12, _⟩ := (unhide X1_9).cells
  obtain ⟨c20, c21, c22, _⟩ := (unhide X2_9).cells
  go_wp2
  go_ret
  exact ⟨rfl, unhide HB9⟩
theorem sback_any (G R S : Int) (t : ByteArray) (w : World) (hT : Tab w) (hl : t.size ≤ 9223372036854775807) : Calls Tryd.prog 5 #[.agg #[.int .i64 G, .int .i64 R, .int .i64 S], .string t] w fun e w' => e = .returned (.bool true) ∧ Below w.heap.size w w' := by
  by_cases ht : 4096 < t.size
  · exact sback_t G R S t w hT ht hl
  · have ht' : t.size ≤ 4096 := by omega
    generalize hb : sopenR t = B
    obtain ⟨x, y, z, F⟩ := B
    have hF : F = 0 → swrapR x y z = (t, 0) := fun e => by
      subst e
      have h := (swrap_sopen (t := t) (by rw [hb])).1
      rw [hb] at h
      exact h
    generalize hv : swrapR x y z = V at *
    obtain ⟨v, D⟩ := V
    by_cases hm : MayB G R S
    · have h2 := sopen_swrap hm
      have h1 : swrapR G R S = ((swrapR G R S).1, 0) := by rw [swrapR_ok hm]
      by_cases f0 : F = 0
      · subst f0
        exact sback_00 G R S t w hT ht' _ x y z h1 h2 hb (hv.trans (hF rfl))
      · exact sback_01 G R S t w hT ht' _ x y z h1 h2 F f0 hb v D hv
    · by_cases f0 : F = 0
      · subst f0
        exact sback_10 G R S t w hT ht' ⟨#[]⟩ x y z 101 (by decide) (swrapR_no hm) sopen_none hb (hv.trans (hF rfl))
      · exact sback_11 G R S t w hT ht' ⟨#[]⟩ x y z 101 (by decide) (swrapR_no hm) sopen_none F f0 hb v D hv
end Go.Proofs.YtdkgifjmahkiaaaDoor
