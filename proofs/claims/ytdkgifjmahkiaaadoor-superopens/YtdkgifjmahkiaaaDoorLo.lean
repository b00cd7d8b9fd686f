/- The walk of the law SuperOpens. -/
import Derived.Test.YtdkgifjmahkiaaaDoorSa
namespace Go.Proofs.YtdkgifjmahkiaaaDoor
open Go.ChangeShapes Go.WideShapes Go.ChangeAt Go.RowKit
open L4

set_option maxRecDepth 10000 in
set_option maxHeartbeats 2000000 in
theorem sopens_t (t : ByteArray) (K G : Int) (P : ByteArray) (w : World) (hT : Tab w) (hl0 : t.size ≤ 9223372036854775807) (ht : 4096 < t.size) (_hP : P.size ≤ 9223372036854775807) : Calls Tryd.prog 4 #[.string t, .agg #[.int .i64 K, .int .i64 G, .string P]] w fun e w' => e = .returned (.bool true) ∧ Below w.heap.size w w' := by
  have hA := fun W (hW : Tab W) => awake_any W hW
  have HT := hide hT
  have HA := hide hA
  clear hT hA
  go_enter Tryd.func4, Tryd.ntmps4
  go_wp2_with fail
  have HB0 := hide (b_alloc w (.cells #[.int .i64 K, .int .i64 G, .string P] 33))
  have X0 := hide (Bk.new w (.int .i64 K) (.int .i64 G) (.string P) 33)
  generalize w.alloc (.cells #[.int .i64 K, .int .i64 G, .string P] 33) = w0 at *
  refine (unhide HA _ ((unhide HT).below (unhide HB0))).mono ?_
  rintro e w1 ⟨rfl, hb⟩
  have HB1 := hide (below_then (unhide HB0) hb)
  have X0_1 := hide ((unhide X0).then hb)
  clear hb HB0 X0
  obtain ⟨c00, c01, c02, _⟩ := (unhide X0_1).cells
  go_wp2
  go_ret
  exact ⟨rfl, unhide HB1⟩
set_option maxRecDepth 10000 in
set_option maxHeartbeats 2000000 in
theorem sopens_p (t : ByteArray) (K G : Int) (P : ByteArray) (w : World) (hT : Tab w) (hl0 : t.size ≤ 9223372036854775807) (ht : t.size ≤ 4096) (hP : 4096 < P.size) (hl : P.size ≤ 9223372036854775807) : Calls Tryd.prog 4 #[.string t, .agg #[.int .i64 K, .int .i64 G, .string P]] w fun e w' => e = .returned (.bool true) ∧ Below w.heap.size w w' := by
  have hA := fun W (hW : Tab W) => awake_any W hW
  have HT := hide hT
  have HA := hide hA
  clear hT hA
  go_enter Tryd.func4, Tryd.ntmps4
  go_wp2_with fail
  have HB0 := hide (b_alloc w (.cells #[.int .i64 K, .int .i64 G, .string P] 33))
  have X0 := hide (Bk.new w (.int .i64 K) (.int .i64 G) (.string P) 33)
  generalize w.alloc (.cells #[.int .i64 K, .int .i64 G, .string P] 33) = w0 at *
  refine (unhide HA _ ((unhide HT).below (unhide HB0))).mono ?_
  rintro e w1 ⟨rfl, hb⟩
  have HB1 := hide (below_then (unhide HB0) hb)
  have X0_1 := hide ((unhide X0).then hb)
  clear hb HB0 X0
  obtain ⟨c00, c01, c02, _⟩ := (unhide X0_1).cells
  go_wp2
  go_ret
  exact ⟨rfl, unhide HB1⟩
set_option maxRecDepth 10000 in
set_option maxHeartbeats 2000000 in
theorem sopens_main (t : ByteArray) (K G : Int) (P : ByteArray) (w : World) (hT : Tab w) (ht : t.size ≤ 4096) (hP : P.size ≤ 4096) : Calls Tryd.prog 4 #[.string t, .agg #[.int .i64 K, .int .i64 G, .string P]] w fun e w' => e = .returned (.bool true) ∧ Below w.heap.size w w' := by
  have hA := fun W (hW : Tab W) => awake_any W hW
  have h1 := fun W (hW : Tab W) => rwrap_any K G P W hW
  generalize wrapR K G P = A at *
  obtain ⟨u, E⟩ := A
  have h2 := fun W (hW : Tab W) => sopen_any t W hW
  have h3 := fun W => rsopen_any t W
  have h4 := fun W (hW : Tab W) => sopen_any u W hW
  have h5 := fun W => rsopen_any u W
  generalize sopenR t = B at *
  generalize sopenR u = C at *
  obtain ⟨x, y, z, F⟩ := B
  obtain ⟨x', y', z', F'⟩ := C
  have HT := hide hT
  have HA := hide hA
  have H1 := hide h1
  have H2 := hide h2
  have H3 := hide h3
  have H4 := hide h4
  have H5 := hide h5
  clear hT hA h1 h2 h3 h4 h5
  go_enter Tryd.func4, Tryd.ntmps4
  go_wp2_with fail
  have HB0 := hide (b_alloc w (.cells #[.int .i64 K, .int .i64 G, .string P] 33))
  have X0 := hide (Bk.new w (.int .i64 K) (.int .i64 G) (.string P) 33)
  generalize w.alloc (.cells #[.int .i64 K, .int .i64 G, .string P] 33) = w0 at *
  refine (unhide HA _ ((unhide HT).below (unhide HB0))).mono ?_
  rintro e w1 ⟨rfl, hb⟩
  have HB1 := hide (below_then (unhide HB0) hb)
  have X0_1 := hide ((unhide X0).then hb)
  clear hb HB0 X0
  obtain ⟨c00, c01, c02, _⟩ := (unhide X0_1).cells
  go_wp2_with fail
  clear c00 c01 c02
  refine (unhide H1 _ ((unhide HT).below (unhide HB1))).mono ?_
  rintro e w2 ⟨rfl, hb⟩
  have HB2 := hide (below_then (unhide HB1) hb)
  have X0_2 := hide ((unhide X0_1).then hb)
  clear hb HB1 X0_1
  obtain ⟨c00, c01, c02, _⟩ := (unhide X0_2).cells
  go_wp2_with fail
  clear c00 c01 c02
  refine (unhide H2 _ ((unhide HT).below (unhide HB2))).mono ?_
  unfold sopened
  rintro e w3 ⟨rfl, hb⟩
  have HB3 := hide (below_then (unhide HB2) hb)
  have X0_3 := hide ((unhide X0_2).then hb)
  clear hb HB2 X0_2
  have HB4 := hide (below_then (unhide HB3) (b_alloc w3 (.cells #[.int .i64 x, .int .i64 y, .int .i64 z] 23)))
  have X0_4 := hide ((unhide X0_3).then (b_alloc w3 (.cells #[.int .i64 x, .int .i64 y, .int .i64 z] 23)))
  have X1 := hide (Bk.new w3 (.int .i64 x) (.int .i64 y) (.int .i64 z) 23)
  clear HB3 X0_3
  obtain ⟨c00, c01, c02, _⟩ := (unhide X0_4).cells
  obtain ⟨c10, c11, c12, _⟩ := (unhide X1).cells
  go_wp2_with fail
  clear c00 c01 c02 c10 c11 c12
  obtain ⟨b1, hbe⟩ : ∃ b, b = w3.heap.size := ⟨_, rfl⟩
  rw [← hbe] at X1 ⊢
  clear hbe
  generalize w3.alloc (.cells #[.int .i64 x, .int .i64 y, .int .i64 z] 23) = w5 at *
  refine (unhide H3 _).mono ?_
  unfold sopened
  rintro e w6 ⟨rfl, hb⟩
  have HB6 := hide (below_then (unhide HB4) hb)
  have X0_6 := hide ((unhide X0_4).then hb)
  have X1_6 := hide ((unhide X1).then hb)
  clear hb HB4 X0_4 X1
  have HB7 := hide (below_then (unhide HB6) (b_alloc w6 (.cells #[.int .i64 x, .int .i64 y, .int .i64 z] 23)))
  have X0_7 := hide ((unhide X0_6).then (b_alloc w6 (.cells #[.int .i64 x, .int .i64 y, .int .i64 z] 23)))
  have X1_7 := hide ((unhide X1_6).then (b_alloc w6 (.cells #[.int .i64 x, .int .i64 y, .int .i64 z] 23)))
  have X2 := hide (Bk.new w6 (.int .i64 x) (.int .i64 y) (.int .i64 z) 23)
  clear HB6 X0_6 X1_6
  obtain ⟨c00, c01, c02, _⟩ := (unhide X0_7).cells
  obtain ⟨c10, c11, c12, _⟩ := (unhide X1_7).cells
  obtain ⟨c20, c21, c22, _⟩ := (unhide X2).cells
  go_wp2_with fail
  clear c00 c01 c02 c10 c11 c12 c20 c21 c22
  obtain ⟨b2, hbe⟩ : ∃ b, b = w6.heap.size := ⟨_, rfl⟩
  rw [← hbe] at X2 ⊢
  clear hbe
  generalize w6.alloc (.cells #[.int .i64 x, .int .i64 y, .int .i64 z] 23) = w8 at *
  refine (unhide H4 _ ((unhide HT).below (unhide HB7))).mono ?_
  unfold sopened
  rintro e w9 ⟨rfl, hb⟩
  have HB9 := hide (below_then (unhide HB7) hb)
  have X0_9 := hide ((unhide X0_7).then hb)
  have X1_9 := hide ((unhide X1_7).then hb)
  have X2_9 := hide ((unhide X2).then hb)
  clear hb HB7 X0_7 X1_7 X2
  have HB10 := hide (below_then (unhide HB9) (b_alloc w9 (.cells #[.int .i64 x', .int .i64 y', .int .i64 z'] 23)))
  have X0_10 := hide ((unhide X0_9).then (b_alloc w9 (.cells #[.int .i64 x', .int .i64 y', .int .i64 z'] 23)))
  have X1_10 := hide ((unhide X1_9).then (b_alloc w9 (.cells #[.int .i64 x', .int .i64 y', .int .i64 z'] 23)))
  have X2_10 := hide ((unhide X2_9).then (b_alloc w9 (.cells #[.int .i64 x', .int .i64 y', .int .i64 z'] 23)))
  have X3 := hide (Bk.new w9 (.int .i64 x') (.int .i64 y') (.int .i64 z') 23)
  clear HB9 X0_9 X1_9 X2_9
  obtain ⟨c00, c01, c02, _⟩ := (unhide X0_10).cells
  obtain ⟨c10, c11, c12, _⟩ := (unhide X1_10).cells
  obtain ⟨c20, c21, c22, _⟩ := (unhide X2_10).cells
  obtain ⟨c30, c31, c32, _⟩ := (unhide X3).cells
  go_wp2_with fail
  clear c00 c01 c02 c10 c11 c12 c20 c21 c22 c30 c31 c32
  obtain ⟨b3, hbe⟩ : ∃ b, b = w9.heap.size := ⟨_, rfl⟩
  rw [← hbe] at X3 ⊢
  clear hbe
  generalize w9.alloc (.cells #[.int .i64 x', .int .i64 y', .int .i64 z'] 23) = w11 at *
  refine (unhide H5 _).mono ?_
  unfold sopened
  rintro e w12 ⟨rfl, hb⟩
  have HB12 := hide (below_then (unhide HB10) hb)
  have X0_12 := hide ((unhide X0_10).then hb)
  have X1_12 := hide ((unhide X1_10).then hb)
  have X2_12 := hide ((unhide X2_10).then hb)
  have X3_12 := hide ((unhide X3).then hb)
  clear hb HB10 X0_10 X1_10 X2_10 X3
  have HB13 := hide (below_then (unhide HB12) (b_alloc w12 (.cells #[.int .i64 x', .int .i64 y', .int .i64 z'] 23)))
  have X0_13 := hide ((unhide X0_12).then (b_alloc w12 (.cells #[.int .i64 x', .int .i64 y', .int .i64 z'] 23)))
  have X1_13 := hide ((unhide X1_12).then (b_alloc w12 (.cells #[.int .i64 x', .int .i64 y', .int .i64 z'] 23)))
  have X2_13 := hide ((unhide X2_12).then (b_alloc w12 (.cells #[.int .i64 x', .int .i64 y', .int .i64 z'] 23)))
  have X3_13 := hide ((unhide X3_12).then (b_alloc w12 (.cells #[.int .i64 x', .int .i64 y', .int .i64 z'] 23)))
  have X4 := hide (Bk.new w12 (.int .i64 x') (.int .i64 y') (.int .i64 z') 23)
  clear HB12 X0_12 X1_12 X2_12 X3_12
  obtain ⟨c00, c01, c02, _⟩ := (unhide X0_13).cells
  obtain ⟨c10, c11, c12, _⟩ := (unhide X1_13).cells
  obtain ⟨c20, c21, c22, _⟩ := (unhide X2_13).cells
  obtain ⟨c30, c31, c32, _⟩ := (unhide X3_13).cells
  obtain ⟨c40, c41, c42, _⟩ := (unhide X4).cells
  go_wp2
  go_ret
  exact ⟨rfl, unhide HB13⟩
theorem sopens_any (t : ByteArray) (K G : Int) (P : ByteArray) (w : World) (hT : Tab w) (ht : t.size ≤ 9223372036854775807) (hP : P.size ≤ 9223372036854775807) : Calls Tryd.prog 4 #[.string t, .agg #[.int .i64 K, .int .i64 G, .string P]] w fun e w' => e = .returned (.bool true) ∧ Below w.heap.size w w' := by
  by_cases h1 : 4096 < t.size
  · exact sopens_t t K G P w hT ht h1 hP
  · by_cases h2 : 4096 < P.size
    · exact sopens_p t K G P w hT ht (by omega) h2 hP
    · exact sopens_main t K G P w hT (by omega) (by omega)
end Go.Proofs.YtdkgifjmahkiaaaDoor
