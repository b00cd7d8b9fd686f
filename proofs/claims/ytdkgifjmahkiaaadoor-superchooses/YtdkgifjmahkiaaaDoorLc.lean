/- The walk of the law SuperChooses. -/
import Derived.Test.YtdkgifjmahkiaaaDoorSa
namespace Go.Proofs.YtdkgifjmahkiaaaDoor
open Go.ChangeShapes Go.WideShapes Go.ChangeAt Go.RowKit
open L4

set_option maxRecDepth 10000 in
set_option maxHeartbeats 2000000 in
theorem schooses_s (G R S G2 R2 S2 : Int) (s t : ByteArray) (how : Int) (w : World) (hT : Tab w) (hs : 4096 < s.size) (hl : s.size ≤ 9223372036854775807) (_hl2 : t.size ≤ 9223372036854775807) : Calls Tryd.prog 6 #[.agg #[.int .i64 G, .int .i64 R, .int .i64 S], .agg #[.int .i64 G2, .int .i64 R2, .int .i64 S2], .string s, .string t, .int .i64 how] w fun e w' => e = .returned (.bool true) ∧ Below w.heap.size w w' := by
  have hA := fun W (hW : Tab W) => awake_any W hW
  have HT := hide hT
  have HA := hide hA
  clear hT hA
  go_enter Tryd.func6, Tryd.ntmps6
  go_wp2_with fail
  have HB0 := hide (below_then (b_alloc w (.cells #[.int .i64 G, .int .i64 R, .int .i64 S] 23)) (b_alloc (w.alloc (.cells #[.int .i64 G, .int .i64 R, .int .i64 S] 23)) (.cells #[.int .i64 G2, .int .i64 R2, .int .i64 S2] 23)))
  have X0 := hide ((Bk.new w (.int .i64 G) (.int .i64 R) (.int .i64 S) 23).then (b_alloc (w.alloc (.cells #[.int .i64 G, .int .i64 R, .int .i64 S] 23)) (.cells #[.int .i64 G2, .int .i64 R2, .int .i64 S2] 23)))
  have X1 := hide (Bk.new (w.alloc (.cells #[.int .i64 G, .int .i64 R, .int .i64 S] 23)) (.int .i64 G2) (.int .i64 R2) (.int .i64 S2) 23)
  have hsz : (w.alloc (.cells #[.int .i64 G, .int .i64 R, .int .i64 S] 23)).heap.size = w.heap.size + 1 := by simp
  rw [hsz] at X1
  clear hsz
  generalize ((w.alloc (.cells #[.int .i64 G, .int .i64 R, .int .i64 S] 23)).alloc (.cells #[.int .i64 G2, .int .i64 R2, .int .i64 S2] 23)) = w0 at *
  refine (unhide HA _ ((unhide HT).below (unhide HB0))).mono ?_
  rintro e w1 ⟨rfl, hb⟩
  have HB1 := hide (below_then (unhide HB0) hb)
  have X0_1 := hide ((unhide X0).then hb)
  have X1_1 := hide ((unhide X1).then hb)
  clear hb HB0 X0 X1
  obtain ⟨c00, c01, c02, _⟩ := (unhide X0_1).cells
  obtain ⟨c10, c11, c12, _⟩ := (unhide X1_1).cells
  go_wp2
  go_ret
  exact ⟨rfl, unhide HB1⟩
set_option maxRecDepth 10000 in
set_option maxHeartbeats 2000000 in
theorem schooses_t (G R S G2 R2 S2 : Int) (s t : ByteArray) (how : Int) (w : World) (hT : Tab w) (hs : s.size ≤ 4096) (ht : 4096 < t.size) (hl2 : t.size ≤ 9223372036854775807) : Calls Tryd.prog 6 #[.agg #[.int .i64 G, .int .i64 R, .int .i64 S], .agg #[.int .i64 G2, .int .i64 R2, .int .i64 S2], .string s, .string t, .int .i64 how] w fun e w' => e = .returned (.bool true) ∧ Below w.heap.size w w' := by
  have hA := fun W (hW : Tab W) => awake_any W hW
  have HT := hide hT
  have HA := hide hA
  clear hT hA
  go_enter Tryd.func6, Tryd.ntmps6
  go_wp2_with fail
  have HB0 := hide (below_then (b_alloc w (.cells #[.int .i64 G, .int .i64 R, .int .i64 S] 23)) (b_alloc (w.alloc (.cells #[.int .i64 G, .int .i64 R, .int .i64 S] 23)) (.cells #[.int .i64 G2, .int .i64 R2, .int .i64 S2] 23)))
  have X0 := hide ((Bk.new w (.int .i64 G) (.int .i64 R) (.int .i64 S) 23).then (b_alloc (w.alloc (.cells #[.int .i64 G, .int .i64 R, .int .i64 S] 23)) (.cells #[.int .i64 G2, .int .i64 R2, .int .i64 S2] 23)))
  have X1 := hide (Bk.new (w.alloc (.cells #[.int .i64 G, .int .i64 R, .int .i64 S] 23)) (.int .i64 G2) (.int .i64 R2) (.int .i64 S2) 23)
  have hsz : (w.alloc (.cells #[.int .i64 G, .int .i64 R, .int .i64 S] 23)).heap.size = w.heap.size + 1 := by simp
  rw [hsz] at X1
  clear hsz
  generalize ((w.alloc (.cells #[.int .i64 G, .int .i64 R, .int .i64 S] 23)).alloc (.cells #[.int .i64 G2, .int .i64 R2, .int .i64 S2] 23)) = w0 at *
  refine (unhide HA _ ((unhide HT).below (unhide HB0))).mono ?_
  rintro e w1 ⟨rfl, hb⟩
  have HB1 := hide (below_then (unhide HB0) hb)
  have X0_1 := hide ((unhide X0).then hb)
  have X1_1 := hide ((unhide X1).then hb)
  clear hb HB0 X0 X1
  obtain ⟨c00, c01, c02, _⟩ := (unhide X0_1).cells
  obtain ⟨c10, c11, c12, _⟩ := (unhide X1_1).cells
  go_wp2
  go_ret
  exact ⟨rfl, unhide HB1⟩
set_option maxRecDepth 10000 in
set_option maxHeartbeats 2000000 in
theorem schooses_0 (G R S G2 R2 S2 : Int) (s t : ByteArray) (how : Int) (w : World) (hT : Tab w) (hs : s.size ≤ 4096) (ht : t.size ≤ 4096) (hq : bits .and .i64 how 3 = 0) : Calls Tryd.prog 6 #[.agg #[.int .i64 G, .int .i64 R, .int .i64 S], .agg #[.int .i64 G2, .int .i64 R2, .int .i64 S2], .string s, .string t, .int .i64 how] w fun e w' => e = .returned (.bool true) ∧ Below w.heap.size w w' := by
  have hA := fun W (hW : Tab W) => awake_any W hW
  have k1 := fun W (hW : Tab W) => swrap_any G R S W hW
  have k2 := fun W (hW : Tab W) => swrap_any G2 R2 S2 W hW
  generalize swrapR G R S = A at *
  generalize swrapR G2 R2 S2 = B at *
  obtain ⟨u, E⟩ := A
  obtain ⟨v, F⟩ := B
  have k3 := fun W (hW : Tab W) => choose_any u v W hW
  have k4 := fun W => rchoose_any u v W
  generalize chooseR u v = C at *
  obtain ⟨x, y, z, D⟩ := C
  have HT := hide hT
  have HA := hide hA
  have H1 := hide k1
  have H2 := hide k2
  have H3 := hide k3
  have H4 := hide k4
  clear hT hA k1 k2 k3 k4
  go_enter Tryd.func6, Tryd.ntmps6
  go_wp2_with fail
  have HB0 := hide (below_then (b_alloc w (.cells #[.int .i64 G, .int .i64 R, .int .i64 S] 23)) (b_alloc (w.alloc (.cells #[.int .i64 G, .int .i64 R, .int .i64 S] 23)) (.cells #[.int .i64 G2, .int .i64 R2, .int .i64 S2] 23)))
  have X0 := hide ((Bk.new w (.int .i64 G) (.int .i64 R) (.int .i64 S) 23).then (b_alloc (w.alloc (.cells #[.int .i64 G, .int .i64 R, .int .i64 S] 23)) (.cells #[.int .i64 G2, .int .i64 R2, .int .i64 S2] 23)))
  have X1 := hide (Bk.new (w.alloc (.cells #[.int .i64 G, .int .i64 R, .int .i64 S] 23)) (.int .i64 G2) (.int .i64 R2) (.int .i64 S2) 23)
  have hsz : (w.alloc (.cells #[.int .i64 G, .int .i64 R, .int .i64 S] 23)).heap.size = w.heap.size + 1 := by simp
  rw [hsz] at X1
  clear hsz
  generalize ((w.alloc (.cells #[.int .i64 G, .int .i64 R, .int .i64 S] 23)).alloc (.cells #[.int .i64 G2, .int .i64 R2, .int .i64 S2] 23)) = w0 at *
  refine (unhide HA _ ((unhide HT).below (unhide HB0))).mono ?_
  rintro e w1 ⟨rfl, hb⟩
  have HB1 := hide (below_then (unhide HB0) hb)
  have X0_1 := hide ((unhide X0).then hb)
  have X1_1 := hide ((unhide X1).then hb)
  clear hb HB0 X0 X1
  obtain ⟨c00, c01, c02, _⟩ := (unhide X0_1).cells
  obtain ⟨c10, c11, c12, _⟩ := (unhide X1_1).cells
  go_wp2_with fail
  clear c00 c01 c02 c10 c11 c12
  refine (unhide H1 _ ((unhide HT).below (unhide HB1))).mono ?_
  unfold wrapped
  rintro e w2 ⟨rfl, hb⟩
  have HB2 := hide (below_then (unhide HB1) hb)
  have X0_2 := hide ((unhide X0_1).then hb)
  have X1_2 := hide ((unhide X1_1).then hb)
  clear hb HB1 X0_1 X1_1
  obtain ⟨c00, c01, c02, _⟩ := (unhide X0_2).cells
  obtain ⟨c10, c11, c12, _⟩ := (unhide X1_2).cells
  go_wp2_with fail
  clear c00 c01 c02 c10 c11 c12
  refine (unhide H2 _ ((unhide HT).below (unhide HB2))).mono ?_
  unfold wrapped
  rintro e w3 ⟨rfl, hb⟩
  have HB3 := hide (below_then (unhide HB2) hb)
  have X0_3 := hide ((unhide X0_2).then hb)
  have X1_3 := hide ((unhide X1_2).then hb)
  clear hb HB2 X0_2 X1_2
  obtain ⟨c00, c01, c02, _⟩ := (unhide X0_3).cells
  obtain ⟨c10, c11, c12, _⟩ := (unhide X1_3).cells
  go_wp2_with fail
  clear c00 c01 c02 c10 c11 c12
  refine (unhide H3 _ ((unhide HT).below (unhide HB3))).mono ?_
  unfold sopened
  rintro e w4 ⟨rfl, hb⟩
  have HB4 := hide (below_then (unhide HB3) hb)
  have X0_4 := hide ((unhide X0_3).then hb)
  have X1_4 := hide ((unhide X1_3).then hb)
  clear hb HB3 X0_3 X1_3
  have HB5 := hide (below_then (unhide HB4) (b_alloc w4 (.cells #[.int .i64 x, .int .i64 y, .int .i64 z] 23)))
  have X0_5 := hide ((unhide X0_4).then (b_alloc w4 (.cells #[.int .i64 x, .int .i64 y, .int .i64 z] 23)))
  have X1_5 := hide ((unhide X1_4).then (b_alloc w4 (.cells #[.int .i64 x, .int .i64 y, .int .i64 z] 23)))
  have X2 := hide (Bk.new w4 (.int .i64 x) (.int .i64 y) (.int .i64 z) 23)
  clear HB4 X0_4 X1_4
  obtain ⟨c00, c01, c02, _⟩ := (unhide X0_5).cells
  obtain ⟨c10, c11, c12, _⟩ := (unhide X1_5).cells
  obtain ⟨c20, c21, c22, _⟩ := (unhide X2).cells
  go_wp2_with fail
  clear c00 c01 c02 c10 c11 c12 c20 c21 c22
  obtain ⟨b2, hbe⟩ : ∃ b, b = w4.heap.size := ⟨_, rfl⟩
  rw [← hbe] at X2 ⊢
  clear hbe
  generalize w4.alloc (.cells #[.int .i64 x, .int .i64 y, .int .i64 z] 23) = w6 at *
  refine (unhide H4 _).mono ?_
  unfold sopened
  rintro e w7 ⟨rfl, hb⟩
  have HB7 := hide (below_then (unhide HB5) hb)
  have X0_7 := hide ((unhide X0_5).then hb)
  have X1_7 := hide ((unhide X1_5).then hb)
  have X2_7 := hide ((unhide X2).then hb)
  clear hb HB5 X0_5 X1_5 X2
  have HB8 := hide (below_then (unhide HB7) (b_alloc w7 (.cells #[.int .i64 x, .int .i64 y, .int .i64 z] 23)))
  have X0_8 := hide ((unhide X0_7).then (b_alloc w7 (.cells #[.int .i64 x, .int .i64 y, .int .i64 z] 23)))
  have X1_8 := hide ((unhide X1_7).then (b_alloc w7 (.cells #[.int .i64 x, .int .i64 y, .int .i64 z] 23)))
  have X2_8 := hide ((unhide X2_7).then (b_alloc w7 (.cells #[.int .i64 x, .int .i64 y, .int .i64 z] 23)))
  have X3 := hide (Bk.new w7 (.int .i64 x) (.int .i64 y) (.int .i64 z) 23)
  clear HB7 X0_7 X1_7 X2_7
  obtain ⟨c00, c01, c02, _⟩ := (unhide X0_8).cells
  obtain ⟨c10, c11, c12, _⟩ := (unhide X1_8).cells
  obtain ⟨c20, c21, c22, _⟩ := (unhide X2_8).cells
  obtain ⟨c30, c31, c32, _⟩ := (unhide X3).cells
  go_wp2
  go_ret
  exact ⟨rfl, unhide HB8⟩
set_option maxRecDepth 10000 in
set_option maxHeartbeats 2000000 in
theorem schooses_1 (G R S G2 R2 S2 : Int) (s t : ByteArray) (how : Int) (w : World) (hT : Tab w) (hs : s.size ≤ 4096) (ht : t.size ≤ 4096) (hq : bits .and .i64 how 3 = 1) : Calls Tryd.prog 6 #[.agg #[.int .i64 G, .int .i64 R, .int .i64 S], .agg #[.int .i64 G2, .int .i64 R2, .int .i64 S2], .string s, .string t, .int .i64 how] w fun e w' => e = .returned (.bool true) ∧ Below w.heap.size w w' := by
  have hA := fun W (hW : Tab W) => awake_any W hW
  have k1 := fun W (hW : Tab W) => swrap_any G R S W hW
  have k2 := fun W (hW : Tab W) => swrap_any G2 R2 S2 W hW
  generalize swrapR G R S = A at *
  generalize swrapR G2 R2 S2 = B at *
  obtain ⟨u, E⟩ := A
  obtain ⟨v, F⟩ := B
  have k3 := fun W (hW : Tab W) => choose_any s v W hW
  have k4 := fun W => rchoose_any s v W
  generalize chooseR s v = C at *
  obtain ⟨x, y, z, D⟩ := C
  have HT := hide hT
  have HA := hide hA
  have H1 := hide k1
  have H2 := hide k2
  have H3 := hide k3
  have H4 := hide k4
  clear hT hA k1 k2 k3 k4
  go_enter Tryd.func6, Tryd.ntmps6
  go_wp2_with fail
  have HB0 := hide (below_then (b_alloc w (.cells #[.int .i64 G, .int .i64 R, .int .i64 S] 23)) (b_alloc (w.alloc (.cells #[.int .i64 G, .int .i64 R, .int .i64 S] 23)) (.cells #[.int .i64 G2, .int .i64 R2, .int .i64 S2] 23)))
  have X0 := hide ((Bk.new w (.int .i64 G) (.int .i64 R) (.int .i64 S) 23).then (b_alloc (w.alloc (.cells #[.int .i64 G, .int .i64 R, .int .i64 S] 23)) (.cells #[.int .i64 G2, .int .i64 R2, .int .i64 S2] 23)))
  have X1 := hide (Bk.new (w.alloc (.cells #[.int .i64 G, .int .i64 R, .int .i64 S] 23)) (.int .i64 G2) (.int .i64 R2) (.int .i64 S2) 23)
  have hsz : (w.alloc (.cells #[.int .i64 G, .int .i64 R, .int .i64 S] 23)).heap.size = w.heap.size + 1 := by simp
  rw [hsz] at X1
  clear hsz
  generalize ((w.alloc (.cells #[.int .i64 G, .int .i64 R, .int .i64 S] 23)).alloc (.cells #[.int .i64 G2, .int .i64 R2, .int .i64 S2] 23)) = w0 at *
  refine (unhide HA _ ((unhide HT).below (unhide HB0))).mono ?_
  rintro e w1 ⟨rfl, hb⟩
  have HB1 := hide (below_then (unhide HB0) hb)
  have X0_1 := hide ((unhide X0).then hb)
  have X1_1 := hide ((unhide X1).then hb)
  clear hb HB0 X0 X1
  obtain ⟨c00, c01, c02, _⟩ := (unhide X0_1).cells
  obtain ⟨c10, c11, c12, _⟩ := (unhide X1_1).cells
  go_wp2_with fail
  clear c00 c01 c02 c10 c11 c12
  refine (unhide H1 _ ((unhide HT).below (unhide HB1))).mono ?_
  unfold wrapped
  rintro e w2 ⟨rfl, hb⟩
  have HB2 := hide (below_then (unhide HB1) hb)
  have X0_2 := hide ((unhide X0_1).then hb)
  have X1_2 := hide ((unhide X1_1).then hb)
  clear hb HB1 X0_1 X1_1
  obtain ⟨c00, c01, c02, _⟩ := (unhide X0_2).cells
  obtain ⟨c10, c11, c12, _⟩ := (unhide X1_2).cells
  go_wp2_with fail
  clear c00 c01 c02 c10 c11 c12
  refine (unhide H2 _ ((unhide HT).below (unhide HB2))).mono ?_
  unfold wrapped
  rintro e w3 ⟨rfl, hb⟩
  have HB3 := hide (below_then (unhide HB2) hb)
  have X0_3 := hide ((unhide X0_2).then hb)
  have X1_3 := hide ((unhide X1_2).then hb)
  clear hb HB2 X0_2 X1_2
  obtain ⟨c00, c01, c02, _⟩ := (unhide X0_3).cells
  obtain ⟨c10, c11, c12, _⟩ := (unhide X1_3).cells
  go_wp2_with fail
  clear c00 c01 c02 c10 c11 c12
  refine (unhide H3 _ ((unhide HT).below (unhide HB3))).mono ?_
  unfold sopened
  rintro e w4 ⟨rfl, hb⟩
  have HB4 := hide (below_then (unhide HB3) hb)
  have X0_4 := hide ((unhide X0_3).then hb)
  have X1_4 := hide ((unhide X1_3).then hb)
  clear hb HB3 X0_3 X1_3
  have HB5 := hide (below_then (unhide HB4) (b_alloc w4 (.cells #[.int .i64 x, .int .i64 y, .int .i64 z] 23)))
  have X0_5 := hide ((unhide X0_4).then (b_alloc w4 (.cells #[.int .i64 x, .int .i64 y, .int .i64 z] 23)))
  have X1_5 := hide ((unhide X1_4).then (b_alloc w4 (.cells #[.int .i64 x, .int .i64 y, .int .i64 z] 23)))
  have X2 := hide (Bk.new w4 (.int .i64 x) (.int .i64 y) (.int .i64 z) 23)
  clear HB4 X0_4 X1_4
  obtain ⟨c00, c01, c02, _⟩ := (unhide X0_5).cells
  obtain ⟨c10, c11, c12, _⟩ := (unhide X1_5).cells
  obtain ⟨c20, c21, c22, _⟩ := (unhide X2).cells
  go_wp2_with fail
  clear c00 c01 c02 c10 c11 c12 c20 c21 c22
  obtain ⟨b2, hbe⟩ : ∃ b, b = w4.heap.size := ⟨_, rfl⟩
  rw [← hbe] at X2 ⊢
  clear hbe
  generalize w4.alloc (.cells #[.int .i64 x, .int .i64 y, .int .i64 z] 23) = w6 at *
  refine (unhide H4 _).mono ?_
  unfold sopened
  rintro e w7 ⟨rfl, hb⟩
  have HB7 := hide (below_then (unhide HB5) hb)
  have X0_7 := hide ((unhide X0_5).then hb)
  have X1_7 := hide ((unhide X1_5).then hb)
  have X2_7 := hide ((unhide X2).then hb)
  clear hb HB5 X0_5 X1_5 X2
  have HB8 := hide (below_then (unhide HB7) (b_alloc w7 (.cells #[.int .i64 x, .int .i64 y, .int .i64 z] 23)))
  have X0_8 := hide ((unhide X0_7).then (b_alloc w7 (.cells #[.int .i64 x, .int .i64 y, .int .i64 z] 23)))
  have X1_8 := hide ((unhide X1_7).then (b_alloc w7 (.cells #[.int .i64 x, .int .i64 y, .int .i64 z] 23)))
  have X2_8 := hide ((unhide X2_7).then (b_alloc w7 (.cells #[.int .i64 x, .int .i64 y, .int .i64 z] 23)))
  have X3 := hide (Bk.new w7 (.int .i64 x) (.int .i64 y) (.int .i64 z) 23)
  clear HB7 X0_7 X1_7 X2_7
  obtain ⟨c00, c01, c02, _⟩ := (unhide X0_8).cells
  obtain ⟨c10, c11, c12, _⟩ := (unhide X1_8).cells
  obtain ⟨c20, c21, c22, _⟩ := (unhide X2_8).cells
  obtain ⟨c30, c31, c32, _⟩ := (unhide X3).cells
  go_wp2
  go_ret
  exact ⟨rfl, unhide HB8⟩
set_option maxRecDepth 10000 in
set_option maxHeartbeats 2000000 in
theorem schooses_2 (G R S G2 R2 S2 : Int) (s t : ByteArray) (how : Int) (w : World) (hT : Tab w) (hs : s.size ≤ 4096) (ht : t.size ≤ 4096) (hq : bits .and .i64 how 3 = 2) : Calls Tryd.prog 6 #[.agg #[.int .i64 G, .int .i64 R, .int .i64 S], .agg #[.int .i64 G2, .int .i64 R2, .int .i64 S2], .string s, .string t, .int .i64 how] w fun e w' => e = .returned (.bool true) ∧ Below w.heap.size w w' := by
  have hA := fun W (hW : Tab W) => awake_any W hW
  have k1 := fun W (hW : Tab W) => swrap_any G R S W hW
  have k2 := fun W (hW : Tab W) => swrap_any G2 R2 S2 W hW
  generalize swrapR G R S = A at *
  generalize swrapR G2 R2 S2 = B at *
  obtain ⟨u, E⟩ := A
  obtain ⟨v, F⟩ := B
  have k3 := fun W (hW : Tab W) => choose_any u t W hW
  have k4 := fun W => rchoose_any u t W
  generalize chooseR u t = C at *
  obtain ⟨x, y, z, D⟩ := C
  have HT := hide hT
  have HA := hide hA
  have H1 := hide k1
  have H2 := hide k2
  have H3 := hide k3
  have H4 := hide k4
  clear hT hA k1 k2 k3 k4
  go_enter Tryd.func6, Tryd.ntmps6
  go_wp2_with fail
  have HB0 := hide (below_then (b_alloc w (.cells #[.int .i64 G, .int .i64 R, .int .i64 S] 23)) (b_alloc (w.alloc (.cells #[.int .i64 G, .int .i64 R, .int .i64 S] 23)) (.cells #[.int .i64 G2, .int .i64 R2, .int .i64 S2] 23)))
  have X0 := hide ((Bk.new w (.int .i64 G) (.int .i64 R) (.int .i64 S) 23).then (b_alloc (w.alloc (.cells #[.int .i64 G, .int .i64 R, .int .i64 S] 23)) (.cells #[.int .i64 G2, .int .i64 R2, .int .i64 S2] 23)))
  have X1 := hide (Bk.new (w.alloc (.cells #[.int .i64 G, .int .i64 R, .int .i64 S] 23)) (.int .i64 G2) (.int .i64 R2) (.int .i64 S2) 23)
  have hsz : (w.alloc (.cells #[.int .i64 G, .int .i64 R, .int .i64 S] 23)).heap.size = w.heap.size + 1 := by simp
  rw [hsz] at X1
  clear hsz
  generalize ((w.alloc (.cells #[.int .i64 G, .int .i64 R, .int .i64 S] 23)).alloc (.cells #[.int .i64 G2, .int .i64 R2, .int .i64 S2] 23)) = w0 at *
  refine (unhide HA _ ((unhide HT).below (unhide HB0))).mono ?_
  rintro e w1 ⟨rfl, hb⟩
  have HB1 := hide (below_then (unhide HB0) hb)
  have X0_1 := hide ((unhide X0).then hb)
  have X1_1 := hide ((unhide X1).then hb)
  clear hb HB0 X0 X1
  obtain ⟨c00, c01, c02, _⟩ := (unhide X0_1).cells
  obtain ⟨c10, c11, c12, _⟩ := (unhide X1_1).cells
  go_wp2_with fail
  clear c00 c01 c02 c10 c11 c12
  refine (unhide H1 _ ((unhide HT).below (unhide HB1))).mono ?_
  unfold wrapped
  rintro e w2 ⟨rfl, hb⟩
  have HB2 := hide (below_then (unhide HB1) hb)
  have X0_2 := hide ((unhide X0_1).then hb)
  have X1_2 := hide ((unhide X1_1).then hb)
  clear hb HB1 X0_1 X1_1
  obtain ⟨c00, c01, c02, _⟩ := (unhide X0_2).cells
  obtain ⟨c10, c11, c12, _⟩ := (unhide X1_2).cells
  go_wp2_with fail
  clear c00 c01 c02 c10 c11 c12
  refine (unhide H2 _ ((unhide HT).below (unhide HB2))).mono ?_
  unfold wrapped
  rintro e w3 ⟨rfl, hb⟩
  have HB3 := hide (below_then (unhide HB2) hb)
  have X0_3 := hide ((unhide X0_2).then hb)
  have X1_3 := hide ((unhide X1_2).then hb)
  clear hb HB2 X0_2 X1_2
  obtain ⟨c00, c01, c02, _⟩ := (unhide X0_3).cells
  obtain ⟨c10, c11, c12, _⟩ := (unhide X1_3).cells
  go_wp2_with fail
  clear c00 c01 c02 c10 c11 c12
  refine (unhide H3 _ ((unhide HT).below (unhide HB3))).mono ?_
  unfold sopened
  rintro e w4 ⟨rfl, hb⟩
  have HB4 := hide (below_then (unhide HB3) hb)
  have X0_4 := hide ((unhide X0_3).then hb)
  have X1_4 := hide ((unhide X1_3).then hb)
  clear hb HB3 X0_3 X1_3
  have HB5 := hide (below_then (unhide HB4) (b_alloc w4 (.cells #[.int .i64 x, .int .i64 y, .int .i64 z] 23)))
  have X0_5 := hide ((unhide X0_4).then (b_alloc w4 (.cells #[.int .i64 x, .int .i64 y, .int .i64 z] 23)))
  have X1_5 := hide ((unhide X1_4).then (b_alloc w4 (.cells #[.int .i64 x, .int .i64 y, .int .i64 z] 23)))
  have X2 := hide (Bk.new w4 (.int .i64 x) (.int .i64 y) (.int .i64 z) 23)
  clear HB4 X0_4 X1_4
  obtain ⟨c00, c01, c02, _⟩ := (unhide X0_5).cells
  obtain ⟨c10, c11, c12, _⟩ := (unhide X1_5).cells
  obtain ⟨c20, c21, c22, _⟩ := (unhide X2).cells
  go_wp2_with fail
  clear c00 c01 c02 c10 c11 c12 c20 c21 c22
  obtain ⟨b2, hbe⟩ : ∃ b, b = w4.heap.size := ⟨_, rfl⟩
  rw [← hbe] at X2 ⊢
  clear hbe
  generalize w4.alloc (.cells #[.int .i64 x, .int .i64 y, .int .i64 z] 23) = w6 at *
  refine (unhide H4 _).mono ?_
  unfold sopened
  rintro e w7 ⟨rfl, hb⟩
  have HB7 := hide (below_then (unhide HB5) hb)
  have X0_7 := hide ((unhide X0_5).then hb)
  have X1_7 := hide ((unhide X1_5).then hb)
  have X2_7 := hide ((unhide X2).then hb)
  clear hb HB5 X0_5 X1_5 X2
  have HB8 := hide (below_then (unhide HB7) (b_alloc w7 (.cells #[.int .i64 x, .int .i64 y, .int .i64 z] 23)))
  have X0_8 := hide ((unhide X0_7).then (b_alloc w7 (.cells #[.int .i64 x, .int .i64 y, .int .i64 z] 23)))
  have X1_8 := hide ((unhide X1_7).then (b_alloc w7 (.cells #[.int .i64 x, .int .i64 y, .int .i64 z] 23)))
  have X2_8 := hide ((unhide X2_7).then (b_alloc w7 (.cells #[.int .i64 x, .int .i64 y, .int .i64 z] 23)))
  have X3 := hide (Bk.new w7 (.int .i64 x) (.int .i64 y) (.int .i64 z) 23)
  clear HB7 X0_7 X1_7 X2_7
  obtain ⟨c00, c01, c02, _⟩ := (unhide X0_8).cells
  obtain ⟨c10, c11, c12, _⟩ := (unhide X1_8).cells
  obtain ⟨c20, c21, c22, _⟩ := (unhide X2_8).cells
  obtain ⟨c30, c31, c32, _⟩ := (unhide X3).cells
  go_wp2
  go_ret
  exact ⟨rfl, unhide HB8⟩
set_option maxRecDepth 10000 in
set_option maxHeartbeats 2000000 in
theorem schooses_3 (G R S G2 R2 S2 : Int) (s t : ByteArray) (how : Int) (w : World) (hT : Tab w) (hs : s.size ≤ 4096) (ht : t.size ≤ 4096) (hq : bits .and .i64 how 3 = 3) : Calls Tryd.prog 6 #[.agg #[.int .i64 G, .int .i64 R, .int .i64 S], .agg #[.int .i64 G2, .int .i64 R2, .int .i64 S2], .string s, .string t, .int .i64 how] w fun e w' => e = .returned (.bool true) ∧ Below w.heap.size w w' := by
  have hA := fun W (hW : Tab W) => awake_any W hW
  have k1 := fun W (hW : Tab W) => swrap_any G R S W hW
  have k2 := fun W (hW : Tab W) => swrap_any G2 R2 S2 W hW
  generalize swrapR G R S = A at *
  generalize swrapR G2 R2 S2 = B at *
  obtain ⟨u, E⟩ := A
  obtain ⟨v, F⟩ := B
  have k3 := fun W (hW : Tab W) => choose_any s t W hW
  have k4 := fun W => rchoose_any s t W
  generalize chooseR s t = C at *
  obtain ⟨x, y, z, D⟩ := C
  have HT := hide hT
  have HA := hide hA
  have H1 := hide k1
  have H2 := hide k2
  have H3 := hide k3
  have H4 := hide k4
  clear hT hA k1 k2 k3 k4
  go_enter Tryd.func6, Tryd.ntmps6
  go_wp2_with fail
  have HB0 := hide (below_then (b_alloc w (.cells #[.int .i64 G, .int .i64 R, .int .i64 S] 23)) (b_alloc (w.alloc (.cells #[.int .i64 G, .int .i64 R, .int .i64 S] 23)) (.cells #[.int .i64 G2, .int .i64 R2, .int .i64 S2] 23)))
  have X0 := hide ((Bk.new w (.int .i64 G) (.int .i64 R) (.int .i64 S) 23).then (b_alloc (w.alloc (.cells #[.int .i64 G, .int .i64 R, .int .i64 S] 23)) (.cells #[.int .i64 G2, .int .i64 R2, .int .i64 S2] 23)))
  have X1 := hide (Bk.new (w.alloc (.cells #[.int .i64 G, .int .i64 R, .int .i64 S] 23)) (.int .i64 G2) (.int .i64 R2) (.int .i64 S2) 23)
  have hsz : (w.alloc (.cells #[.int .i64 G, .int .i64 R, .int .i64 S] 23)).heap.size = w.heap.size + 1 := by simp
  rw [hsz] at X1
  clear hsz
  generalize ((w.alloc (.cells #[.int .i64 G, .int .i64 R, .int .i64 S] 23)).alloc (.cells #[.int .i64 G2, .int .i64 R2, .int .i64 S2] 23)) = w0 at *
  refine (unhide HA _ ((unhide HT).below (unhide HB0))).mono ?_
  rintro e w1 ⟨rfl, hb⟩
  have HB1 := hide (below_then (unhide HB0) hb)
  have X0_1 := hide ((unhide X0).then hb)
  have X1_1 := hide ((unhide X1).then hb)
  clear hb HB0 X0 X1
  obtain ⟨c00, c01, c02, _⟩ := (unhide X0_1).cells
  obtain ⟨c10, c11, c12, _⟩ := (unhide X1_1).cells
  go_wp2_with fail
  clear c00 c01 c02 c10 c11 c12
  refine (unhide H1 _ ((unhide HT).below (unhide HB1))).mono ?_
  unfold wrapped
  rintro e w2 ⟨rfl, hb⟩
  have HB2 := hide (below_then (unhide HB1) hb)
  have X0_2 := hide ((unhide X0_1).then hb)
  have X1_2 := hide ((unhide X1_1).then hb)
  clear hb HB1 X0_1 X1_1
  obtain ⟨c00, c01, c02, _⟩ := (unhide X0_2).cells
  obtain ⟨c10, c11, c12, _⟩ := (unhide X1_2).cells
  go_wp2_with fail
  clear c00 c01 c02 c10 c11 c12
  refine (unhide H2 _ ((unhide HT).below (unhide HB2))).mono ?_
  unfold wrapped
  rintro e w3 ⟨rfl, hb⟩
  have HB3 := hide (below_then (unhide HB2) hb)
  have X0_3 := hide ((unhide X0_2).then hb)
  have X1_3 := hide ((unhide X1_2).then hb)
  clear hb HB2 X0_2 X1_2
  obtain ⟨c00, c01, c02, _⟩ := (unhide X0_3).cells
  obtain ⟨c10, c11, c12, _⟩ := (unhide X1_3).cells
  go_wp2_with fail
  clear c00 c01 c02 c10 c11 c12
  refine (unhide H3 _ ((unhide HT).below (unhide HB3))).mono ?_
  unfold sopened
  rintro e w4 ⟨rfl, hb⟩
  have HB4 := hide (below_then (unhide HB3) hb)
  have X0_4 := hide ((unhide X0_3).then hb)
  have X1_4 := hide ((unhide X1_3).then hb)
  clear hb HB3 X0_3 X1_3
  have HB5 := hide (below_then (unhide HB4) (b_alloc w4 (.cells #[.int .i64 x, .int .i64 y, .int .i64 z] 23)))
  have X0_5 := hide ((unhide X0_4).then (b_alloc w4 (.cells #[.int .i64 x, .int .i64 y, .int .i64 z] 23)))
  have X1_5 := hide ((unhide X1_4).then (b_alloc w4 (.cells #[.int .i64 x, .int .i64 y, .int .i64 z] 23)))
  have X2 := hide (Bk.new w4 (.int .i64 x) (.int .i64 y) (.int .i64 z) 23)
  clear HB4 X0_4 X1_4
  obtain ⟨c00, c01, c02, _⟩ := (unhide X0_5).cells
  obtain ⟨c10, c11, c12, _⟩ := (unhide X1_5).cells
  obtain ⟨c20, c21, c22, _⟩ := (unhide X2).cells
  go_wp2_with fail
  clear c00 c01 c02 c10 c11 c12 c20 c21 c22
  obtain ⟨b2, hbe⟩ : ∃ b, b = w4.heap.size := ⟨_, rfl⟩
  rw [← hbe] at X2 ⊢
  clear hbe
  generalize w4.alloc (.cells #[.int .i64 x, .int .i64 y, .int .i64 z] 23) = w6 at *
  refine (unhide H4 _).mono ?_
  unfold sopened
  rintro e w7 ⟨rfl, hb⟩
  have HB7 := hide (below_then (unhide HB5) hb)
  have X0_7 := hide ((unhide X0_5).then hb)
  have X1_7 := hide ((unhide X1_5).then hb)
  have X2_7 := hide ((unhide X2).then hb)
  clear hb HB5 X0_5 X1_5 X2
  have HB8 := hide (below_then (unhide HB7) (b_alloc w7 (.cells #[.int .i64 x, .int .i64 y, .int .i64 z] 23)))
  have X0_8 := hide ((unhide X0_7).then (b_alloc w7 (.cells #[.int .i64 x, .int .i64 y, .int .i64 z] 23)))
  have X1_8 := hide ((unhide X1_7).then (b_alloc w7 (.cells #[.int .i64 x, .int .i64 y, .int .i64 z] 23)))
  have X2_8 := hide ((unhide X2_7).then (b_alloc w7 (.cells #[.int .i64 x, .int .i64 y, .int .i64 z] 23)))
  have X3 := hide (Bk.new w7 (.int .i64 x) (.int .i64 y) (.int .i64 z) 23)
  clear HB7 X0_7 X1_7 X2_7
  obtain ⟨c00, c01, c02, _⟩ := (unhide X0_8).cells
  obtain ⟨c10, c11, c12, _⟩ := (unhide X1_8).cells
  obtain ⟨c20, c21, c22, _⟩ := (unhide X2_8).cells
  obtain ⟨c30, c31, c32, _⟩ := (unhide X3).cells
  go_wp2
  go_ret
  exact ⟨rfl, unhide HB8⟩
theorem and_three (x : Int) : ∃ q : Nat, q ≤ 3 ∧ bits .and .i64 x 3 = (q : Int) := by
  refine ⟨(BitVec.ofInt 64 x &&& BitVec.ofInt 64 3).toNat, ?_, ?_⟩
  · rw [BitVec.toNat_and, show (BitVec.ofInt 64 3).toNat = 3 from rfl]
    exact Nat.and_le_right
  · show IntKind.i64.wrap ((BitVec.ofInt 64 x &&& BitVec.ofInt 64 3).toNat : Int) = _
    have h : (BitVec.ofInt 64 x &&& BitVec.ofInt 64 3).toNat ≤ 3 := by
      rw [BitVec.toNat_and, show (BitVec.ofInt 64 3).toNat = 3 from rfl]
      exact Nat.and_le_right
    rw [IntKind.wrap_i64]
    omega
theorem schooses_any (G R S G2 R2 S2 : Int) (s t : ByteArray) (how : Int) (w : World) (hT : Tab w) (hl : s.size ≤ 9223372036854775807) (hl2 : t.size ≤ 9223372036854775807) : Calls Tryd.prog 6 #[.agg #[.int .i64 G, .int .i64 R, .int .i64 S], .agg #[.int .i64 G2, .int .i64 R2, .int .i64 S2], .string s, .string t, .int .i64 how] w fun e w' => e = .returned (.bool true) ∧ Below w.heap.size w w' := by
  by_cases hs : 4096 < s.size
  · exact schooses_s G R S G2 R2 S2 s t how w hT hs hl hl2
  · by_cases ht : 4096 < t.size
    · exact schooses_t G R S G2 R2 S2 s t how w hT (by omega) ht hl2
    · obtain ⟨q, hq, e⟩ := and_three how
      have c : q = 0 ∨ q = 1 ∨ q = 2 ∨ q = 3 := by omega
      rcases c with rfl | rfl | rfl | rfl
      · exact schooses_0 G R S G2 R2 S2 s t how w hT (by omega) (by omega) e
      · exact schooses_1 G R S G2 R2 S2 s t how w hT (by omega) (by omega) e
      · exact schooses_2 G R S G2 R2 S2 s t how w hT (by omega) (by omega) e
      · exact schooses_3 G R S G2 R2 S2 s t how w hT (by omega) (by omega) e
end Go.Proofs.YtdkgifjmahkiaaaDoor
