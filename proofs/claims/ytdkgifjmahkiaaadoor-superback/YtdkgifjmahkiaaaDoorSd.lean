/- What the document's Choose does; and what both choose. -/
import Derived.Test.YtdkgifjmahkiaaaDoorSc
import Derived.BigQuiet
import Derived.Deep.QuietTactic
import Derived.WalkSmall
namespace Go.Proofs.YtdkgifjmahkiaaaDoor
open Go.ChangeShapes Go.WideShapes Go.ChangeAt Go.RowKit
open L4


set_option maxRecDepth 10000 in
set_option maxHeartbeats 2000000 in
theorem rchoose_err_err (z o : ByteArray) (w : World) (G0 R0 S0 G1 R1 S1 : Int) (E0 E1 : Nat) (h0 : sopenR z = (G0, R0, S0, E0)) (h1 : sopenR o = (G1, R1, S1, E1)) (hE0 : E0 ≠ 0) (hE1 : E1 ≠ 0) :
    Calls Tryd.prog 17 #[.string z, .string o] w fun e w' => e = .returned (sopened (0, 0, 0, 101)) ∧ Below w.heap.size w w' := by
  have k0 := fun W => rsopen_any z W
  have k1 := fun W => rsopen_any o W
  rw [h0] at k0
  rw [h1] at k1
  clear h0 h1
  have e0 : ((E0 : Int) == 0) = false := beq_eq_false_iff_ne.2 (by omega)
  clear hE0
  have e1 : ((E1 : Int) == 0) = false := beq_eq_false_iff_ne.2 (by omega)
  clear hE1
  have H0 := hide k0
  have H1 := hide k1
  clear k0 k1
  go_enter Tryd.func17, Tryd.ntmps17
  go_wp2_with fail
  have HB0 := hide (b_alloc w (.cells #[.int .i64 0, .int .i64 0, .int .i64 0] 23))
  have HX0 := hide (Bk.new w (.int .i64 0) (.int .i64 0) (.int .i64 0) 23)
  generalize w.alloc (.cells #[.int .i64 0, .int .i64 0, .int .i64 0] 23) = w0 at *
  refine (unhide H0 _).mono ?_
  unfold sopened
  rintro e wb ⟨rfl, hb⟩
  go_wp2_with fail
  have HB1 := hide (below_then (unhide HB0) (below_then hb (b_alloc wb (.cells #[.int .i64 G0, .int .i64 R0, .int .i64 S0] 23))))
  have HX1 := hide (((unhide HX0).then hb).then (b_alloc wb (.cells #[.int .i64 G0, .int .i64 R0, .int .i64 S0] 23)))
  have HY1 := hide (Bk.new wb (.int .i64 G0) (.int .i64 R0) (.int .i64 S0) 23)
  obtain ⟨b0, hbe⟩ : ∃ b, b = wb.heap.size := ⟨_, rfl⟩
  rw [← hbe] at HY1 ⊢
  clear hbe hb HB0 HX0
  generalize wb.alloc (.cells #[.int .i64 G0, .int .i64 R0, .int .i64 S0] 23) = wc at *
  refine (unhide H1 _).mono ?_
  unfold sopened
  rintro e wd ⟨rfl, hb⟩
  go_wp2_with fail
  have HB2 := hide (below_then (unhide HB1) (below_then hb (b_alloc wd (.cells #[.int .i64 G1, .int .i64 R1, .int .i64 S1] 23))))
  have HX2 := hide (((unhide HX1).then hb).then (b_alloc wd (.cells #[.int .i64 G1, .int .i64 R1, .int .i64 S1] 23)))
  have HY2 := hide (((unhide HY1).then hb).then (b_alloc wd (.cells #[.int .i64 G1, .int .i64 R1, .int .i64 S1] 23)))
  have HZ2 := hide (Bk.new wd (.int .i64 G1) (.int .i64 R1) (.int .i64 S1) 23)
  obtain ⟨b1, hbe⟩ : ∃ b, b = wd.heap.size := ⟨_, rfl⟩
  rw [← hbe] at HZ2 ⊢
  clear hbe hb HB1 HX1 HY1
  generalize wd.alloc (.cells #[.int .i64 G1, .int .i64 R1, .int .i64 S1] 23) = we at *
  obtain ⟨x0, x1, x2, _⟩ := (unhide HY2).cells
  obtain ⟨y0, y1, y2, _⟩ := (unhide HZ2).cells
  obtain ⟨d0, d1, d2, df⟩ := (unhide HX2).cells
  clear HY2 HZ2 HX2 H0 H1
  go_quiet (fail)
  go_wp2
  refine bodyPost_ret (v := sopened (0, 0, 0, 101)) ?_ rfl ⟨rfl, ?_⟩
  · rw [results_cell_tmp rfl]
    go_simp <;> rfl
  · exact below_set (below_set (below_set (below_drewN (unhide HB2) _) (Nat.le_refl _)) (Nat.le_refl _)) (Nat.le_refl _)

set_option maxRecDepth 10000 in
set_option maxHeartbeats 2000000 in
theorem rchoose_err_par (z o : ByteArray) (w : World) (G0 R0 S0 G1 R1 S1 : Int) (E0 E1 : Nat) (h0 : sopenR z = (G0, R0, S0, E0)) (h1 : sopenR o = (G1, R1, S1, E1)) (hE0 : E0 ≠ 0) (hE1 : E1 = 0) (hp1 : Int.tmod G1 2 = 0) :
    Calls Tryd.prog 17 #[.string z, .string o] w fun e w' => e = .returned (sopened (0, 0, 0, 101)) ∧ Below w.heap.size w w' := by
  have k0 := fun W => rsopen_any z W
  have k1 := fun W => rsopen_any o W
  rw [h0] at k0
  rw [h1] at k1
  clear h0 h1
  have e0 : ((E0 : Int) == 0) = false := beq_eq_false_iff_ne.2 (by omega)
  clear hE0
  subst hE1
  have H0 := hide k0
  have H1 := hide k1
  clear k0 k1
  go_enter Tryd.func17, Tryd.ntmps17
  go_wp2_with fail
  have HB0 := hide (b_alloc w (.cells #[.int .i64 0, .int .i64 0, .int .i64 0] 23))
  have HX0 := hide (Bk.new w (.int .i64 0) (.int .i64 0) (.int .i64 0) 23)
  generalize w.alloc (.cells #[.int .i64 0, .int .i64 0, .int .i64 0] 23) = w0 at *
  refine (unhide H0 _).mono ?_
  unfold sopened
  rintro e wb ⟨rfl, hb⟩
  go_wp2_with fail
  have HB1 := hide (below_then (unhide HB0) (below_then hb (b_alloc wb (.cells #[.int .i64 G0, .int .i64 R0, .int .i64 S0] 23))))
  have HX1 := hide (((unhide HX0).then hb).then (b_alloc wb (.cells #[.int .i64 G0, .int .i64 R0, .int .i64 S0] 23)))
  have HY1 := hide (Bk.new wb (.int .i64 G0) (.int .i64 R0) (.int .i64 S0) 23)
  obtain ⟨b0, hbe⟩ : ∃ b, b = wb.heap.size := ⟨_, rfl⟩
  rw [← hbe] at HY1 ⊢
  clear hbe hb HB0 HX0
  generalize wb.alloc (.cells #[.int .i64 G0, .int .i64 R0, .int .i64 S0] 23) = wc at *
  refine (unhide H1 _).mono ?_
  unfold sopened
  rintro e wd ⟨rfl, hb⟩
  go_wp2_with fail
  have HB2 := hide (below_then (unhide HB1) (below_then hb (b_alloc wd (.cells #[.int .i64 G1, .int .i64 R1, .int .i64 S1] 23))))
  have HX2 := hide (((unhide HX1).then hb).then (b_alloc wd (.cells #[.int .i64 G1, .int .i64 R1, .int .i64 S1] 23)))
  have HY2 := hide (((unhide HY1).then hb).then (b_alloc wd (.cells #[.int .i64 G1, .int .i64 R1, .int .i64 S1] 23)))
  have HZ2 := hide (Bk.new wd (.int .i64 G1) (.int .i64 R1) (.int .i64 S1) 23)
  obtain ⟨b1, hbe⟩ : ∃ b, b = wd.heap.size := ⟨_, rfl⟩
  rw [← hbe] at HZ2 ⊢
  clear hbe hb HB1 HX1 HY1
  generalize wd.alloc (.cells #[.int .i64 G1, .int .i64 R1, .int .i64 S1] 23) = we at *
  obtain ⟨x0, x1, x2, _⟩ := (unhide HY2).cells
  obtain ⟨y0, y1, y2, _⟩ := (unhide HZ2).cells
  obtain ⟨d0, d1, d2, df⟩ := (unhide HX2).cells
  clear HY2 HZ2 HX2 H0 H1
  go_quiet (fail)
  go_wp2
  refine bodyPost_ret (v := sopened (0, 0, 0, 101)) ?_ rfl ⟨rfl, ?_⟩
  · rw [results_cell_tmp rfl]
    go_simp <;> rfl
  · exact below_set (below_set (below_set (below_drewN (unhide HB2) _) (Nat.le_refl _)) (Nat.le_refl _)) (Nat.le_refl _)

set_option maxRecDepth 10000 in
set_option maxHeartbeats 2000000 in
theorem rchoose_err_ok (z o : ByteArray) (w : World) (G0 R0 S0 G1 R1 S1 : Int) (E0 E1 : Nat) (h0 : sopenR z = (G0, R0, S0, E0)) (h1 : sopenR o = (G1, R1, S1, E1)) (hE0 : E0 ≠ 0) (hE1 : E1 = 0) (hp1 : Int.tmod G1 2 = 1) :
    Calls Tryd.prog 17 #[.string z, .string o] w fun e w' => e = .returned (sopened (G1, R1, S1, 0)) ∧ Below w.heap.size w w' := by
  have k0 := fun W => rsopen_any z W
  have k1 := fun W => rsopen_any o W
  rw [h0] at k0
  rw [h1] at k1
  clear h0 h1
  have e0 : ((E0 : Int) == 0) = false := beq_eq_false_iff_ne.2 (by omega)
  clear hE0
  subst hE1
  have H0 := hide k0
  have H1 := hide k1
  clear k0 k1
  go_enter Tryd.func17, Tryd.ntmps17
  go_wp2_with fail
  have HB0 := hide (b_alloc w (.cells #[.int .i64 0, .int .i64 0, .int .i64 0] 23))
  have HX0 := hide (Bk.new w (.int .i64 0) (.int .i64 0) (.int .i64 0) 23)
  generalize w.alloc (.cells #[.int .i64 0, .int .i64 0, .int .i64 0] 23) = w0 at *
  refine (unhide H0 _).mono ?_
  unfold sopened
  rintro e wb ⟨rfl, hb⟩
  go_wp2_with fail
  have HB1 := hide (below_then (unhide HB0) (below_then hb (b_alloc wb (.cells #[.int .i64 G0, .int .i64 R0, .int .i64 S0] 23))))
  have HX1 := hide (((unhide HX0).then hb).then (b_alloc wb (.cells #[.int .i64 G0, .int .i64 R0, .int .i64 S0] 23)))
  have HY1 := hide (Bk.new wb (.int .i64 G0) (.int .i64 R0) (.int .i64 S0) 23)
  obtain ⟨b0, hbe⟩ : ∃ b, b = wb.heap.size := ⟨_, rfl⟩
  rw [← hbe] at HY1 ⊢
  clear hbe hb HB0 HX0
  generalize wb.alloc (.cells #[.int .i64 G0, .int .i64 R0, .int .i64 S0] 23) = wc at *
  refine (unhide H1 _).mono ?_
  unfold sopened
  rintro e wd ⟨rfl, hb⟩
  go_wp2_with fail
  have HB2 := hide (below_then (unhide HB1) (below_then hb (b_alloc wd (.cells #[.int .i64 G1, .int .i64 R1, .int .i64 S1] 23))))
  have HX2 := hide (((unhide HX1).then hb).then (b_alloc wd (.cells #[.int .i64 G1, .int .i64 R1, .int .i64 S1] 23)))
  have HY2 := hide (((unhide HY1).then hb).then (b_alloc wd (.cells #[.int .i64 G1, .int .i64 R1, .int .i64 S1] 23)))
  have HZ2 := hide (Bk.new wd (.int .i64 G1) (.int .i64 R1) (.int .i64 S1) 23)
  obtain ⟨b1, hbe⟩ : ∃ b, b = wd.heap.size := ⟨_, rfl⟩
  rw [← hbe] at HZ2 ⊢
  clear hbe hb HB1 HX1 HY1
  generalize wd.alloc (.cells #[.int .i64 G1, .int .i64 R1, .int .i64 S1] 23) = we at *
  obtain ⟨x0, x1, x2, _⟩ := (unhide HY2).cells
  obtain ⟨y0, y1, y2, _⟩ := (unhide HZ2).cells
  obtain ⟨d0, d1, d2, df⟩ := (unhide HX2).cells
  clear HY2 HZ2 HX2 H0 H1
  go_quiet (fail)
  go_wp2
  refine bodyPost_ret (v := sopened (G1, R1, S1, 0)) ?_ rfl ⟨rfl, ?_⟩
  · rw [results_cell_tmp rfl]
    go_simp <;> rfl
  · exact below_set (below_set (below_set (below_drewN (unhide HB2) _) (Nat.le_refl _)) (Nat.le_refl _)) (Nat.le_refl _)

set_option maxRecDepth 10000 in
set_option maxHeartbeats 2000000 in
theorem rchoose_par_err (z o : ByteArray) (w : World) (G0 R0 S0 G1 R1 S1 : Int) (E0 E1 : Nat) (h0 : sopenR z = (G0, R0, S0, E0)) (h1 : sopenR o = (G1, R1, S1, E1)) (hE0 : E0 = 0) (hp0 : Int.tmod G0 2 = 1) (hE1 : E1 ≠ 0) :
    Calls Tryd.prog 17 #[.string z, .string o] w fun e w' => e = .returned (sopened (0, 0, 0, 101)) ∧ Below w.heap.size w w' := by
  have k0 := fun W => rsopen_any z W
  have k1 := fun W => rsopen_any o W
  rw [h0] at k0
  rw [h1] at k1
  clear h0 h1
  subst hE0
  have e1 : ((E1 : Int) == 0) = false := beq_eq_false_iff_ne.2 (by omega)
  clear hE1
  have H0 := hide k0
  have H1 := hide k1
  clear k0 k1
  go_enter Tryd.func17, Tryd.ntmps17
  go_wp2_with fail
  have HB0 := hide (b_alloc w (.cells #[.int .i64 0, .int .i64 0, .int .i64 0] 23))
  have HX0 := hide (Bk.new w (.int .i64 0) (.int .i64 0) (.int .i64 0) 23)
  generalize w.alloc (.cells #[.int .i64 0, .int .i64 0, .int .i64 0] 23) = w0 at *
  refine (unhide H0 _).mono ?_
  unfold sopened
  rintro e wb ⟨rfl, hb⟩
  go_wp2_with fail
  have HB1 := hide (below_then (unhide HB0) (below_then hb (b_alloc wb (.cells #[.int .i64 G0, .int .i64 R0, .int .i64 S0] 23))))
  have HX1 := hide (((unhide HX0).then hb).then (b_alloc wb (.cells #[.int .i64 G0, .int .i64 R0, .int .i64 S0] 23)))
  have HY1 := hide (Bk.new wb (.int .i64 G0) (.int .i64 R0) (.int .i64 S0) 23)
  obtain ⟨b0, hbe⟩ : ∃ b, b = wb.heap.size := ⟨_, rfl⟩
  rw [← hbe] at HY1 ⊢
  clear hbe hb HB0 HX0
  generalize wb.alloc (.cells #[.int .i64 G0, .int .i64 R0, .int .i64 S0] 23) = wc at *
  refine (unhide H1 _).mono ?_
  unfold sopened
  rintro e wd ⟨rfl, hb⟩
  go_wp2_with fail
  have HB2 := hide (below_then (unhide HB1) (below_then hb (b_alloc wd (.cells #[.int .i64 G1, .int .i64 R1, .int .i64 S1] 23))))
  have HX2 := hide (((unhide HX1).then hb).then (b_alloc wd (.cells #[.int .i64 G1, .int .i64 R1, .int .i64 S1] 23)))
  have HY2 := hide (((unhide HY1).then hb).then (b_alloc wd (.cells #[.int .i64 G1, .int .i64 R1, .int .i64 S1] 23)))
  have HZ2 := hide (Bk.new wd (.int .i64 G1) (.int .i64 R1) (.int .i64 S1) 23)
  obtain ⟨b1, hbe⟩ : ∃ b, b = wd.heap.size := ⟨_, rfl⟩
  rw [← hbe] at HZ2 ⊢
  clear hbe hb HB1 HX1 HY1
  generalize wd.alloc (.cells #[.int .i64 G1, .int .i64 R1, .int .i64 S1] 23) = we at *
  obtain ⟨x0, x1, x2, _⟩ := (unhide HY2).cells
  obtain ⟨y0, y1, y2, _⟩ := (unhide HZ2).cells
  obtain ⟨d0, d1, d2, df⟩ := (unhide HX2).cells
  clear HY2 HZ2 HX2 H0 H1
  go_quiet (fail)
  go_wp2
  refine bodyPost_ret (v := sopened (0, 0, 0, 101)) ?_ rfl ⟨rfl, ?_⟩
  · rw [results_cell_tmp rfl]
    go_simp <;> rfl
  · exact below_set (below_set (below_set (below_drewN (unhide HB2) _) (Nat.le_refl _)) (Nat.le_refl _)) (Nat.le_refl _)

set_option maxRecDepth 10000 in
set_option maxHeartbeats 2000000 in
theorem rchoose_par_par (z o : ByteArray) (w : World) (G0 R0 S0 G1 R1 S1 : Int) (E0 E1 : Nat) (h0 : sopenR z = (G0, R0, S0, E0)) (h1 : sopenR o = (G1, R1, S1, E1)) (hE0 : E0 = 0) (hp0 : Int.tmod G0 2 = 1) (hE1 : E1 = 0) (hp1 : Int.tmod G1 2 = 0) :
    Calls Tryd.prog 17 #[.string z, .string o] w fun e w' => e = .returned (sopened (0, 0, 0, 101)) ∧ Below w.heap.size w w' := by
  have k0 := fun W => rsopen_any z W
  have k1 := fun W => rsopen_any o W
  rw [h0] at k0
  rw [h1] at k1
  clear h0 h1
  subst hE0
  subst hE1
  have H0 := hide k0
  have H1 := hide k1
  clear k0 k1
  go_enter Tryd.func17, Tryd.ntmps17
  go_wp2_with fail
  have HB0 := hide (b_alloc w (.cells #[.int .i64 0, .int .i64 0, .int .i64 0] 23))
  have HX0 := hide (Bk.new w (.int .i64 0) (.int .i64 0) (.int .i64 0) 23)
  generalize w.alloc (.cells #[.int .i64 0, .int .i64 0, .int .i64 0] 23) = w0 at *
  refine (unhide H0 _).mono ?_
  unfold sopened
  rintro e wb ⟨rfl, hb⟩
  go_wp2_with fail
  have HB1 := hide (below_then (unhide HB0) (below_then hb (b_alloc wb (.cells #[.int .i64 G0, .int .i64 R0, .int .i64 S0] 23))))
  have HX1 := hide (((unhide HX0).then hb).then (b_alloc wb (.cells #[.int .i64 G0, .int .i64 R0, .int .i64 S0] 23)))
  have HY1 := hide (Bk.new wb (.int .i64 G0) (.int .i64 R0) (.int .i64 S0) 23)
  obtain ⟨b0, hbe⟩ : ∃ b, b = wb.heap.size := ⟨_, rfl⟩
  rw [← hbe] at HY1 ⊢
  clear hbe hb HB0 HX0
  generalize wb.alloc (.cells #[.int .i64 G0, .int .i64 R0, .int .i64 S0] 23) = wc at *
  refine (unhide H1 _).mono ?_
  unfold sopened
  rintro e wd ⟨rfl, hb⟩
  go_wp2_with fail
  have HB2 := hide (below_then (unhide HB1) (below_then hb (b_alloc wd (.cells #[.int .i64 G1, .int .i64 R1, .int .i64 S1] 23))))
  have HX2 := hide (((unhide HX1).then hb).then (b_alloc wd (.cells #[.int .i64 G1, .int .i64 R1, .int .i64 S1] 23)))
  have HY2 := hide (((unhide HY1).then hb).then (b_alloc wd (.cells #[.int .i64 G1, .int .i64 R1, .int .i64 S1] 23)))
  have HZ2 := hide (Bk.new wd (.int .i64 G1) (.int .i64 R1) (.int .i64 S1) 23)
  obtain ⟨b1, hbe⟩ : ∃ b, b = wd.heap.size := ⟨_, rfl⟩
  rw [← hbe] at HZ2 ⊢
  clear hbe hb HB1 HX1 HY1
  generalize wd.alloc (.cells #[.int .i64 G1, .int .i64 R1, .int .i64 S1] 23) = we at *
  obtain ⟨x0, x1, x2, _⟩ := (unhide HY2).cells
  obtain ⟨y0, y1, y2, _⟩ := (unhide HZ2).cells
  obtain ⟨d0, d1, d2, df⟩ := (unhide HX2).cells
  clear HY2 HZ2 HX2 H0 H1
  go_quiet (fail)
  go_wp2
  refine bodyPost_ret (v := sopened (0, 0, 0, 101)) ?_ rfl ⟨rfl, ?_⟩
  · rw [results_cell_tmp rfl]
    go_simp <;> rfl
  · exact below_set (below_set (below_set (below_drewN (unhide HB2) _) (Nat.le_refl _)) (Nat.le_refl _)) (Nat.le_refl _)

set_option maxRecDepth 10000 in
set_option maxHeartbeats 2000000 in
theorem rchoose_par_ok (z o : ByteArray) (w : World) (G0 R0 S0 G1 R1 S1 : Int) (E0 E1 : Nat) (h0 : sopenR z = (G0, R0, S0, E0)) (h1 : sopenR o = (G1, R1, S1, E1)) (hE0 : E0 = 0) (hp0 : Int.tmod G0 2 = 1) (hE1 : E1 = 0) (hp1 : Int.tmod G1 2 = 1) :
    Calls Tryd.prog 17 #[.string z, .string o] w fun e w' => e = .returned (sopened (G1, R1, S1, 0)) ∧ Below w.heap.size w w' := by
  have k0 := fun W => rsopen_any z W
  have k1 := fun W => rsopen_any o W
  rw [h0] at k0
  rw [h1] at k1
  clear h0 h1
  subst hE0
  subst hE1
  have H0 := hide k0
  have H1 := hide k1
  clear k0 k1
  go_enter Tryd.func17, Tryd.ntmps17
  go_wp2_with fail
  have HB0 := hide (b_alloc w (.cells #[.int .i64 0, .int .i64 0, .int .i64 0] 23))
  have HX0 := hide (Bk.new w (.int .i64 0) (.int .i64 0) (.int .i64 0) 23)
  generalize w.alloc (.cells #[.int .i64 0, .int .i64 0, .int .i64 0] 23) = w0 at *
  refine (unhide H0 _).mono ?_
  unfold sopened
  rintro e wb ⟨rfl, hb⟩
  go_wp2_with fail
  have HB1 := hide (below_then (unhide HB0) (below_then hb (b_alloc wb (.cells #[.int .i64 G0, .int .i64 R0, .int .i64 S0] 23))))
  have HX1 := hide (((unhide HX0).then hb).then (b_alloc wb (.cells #[.int .i64 G0, .int .i64 R0, .int .i64 S0] 23)))
  have HY1 := hide (Bk.new wb (.int .i64 G0) (.int .i64 R0) (.int .i64 S0) 23)
  obtain ⟨b0, hbe⟩ : ∃ b, b = wb.heap.size := ⟨_, rfl⟩
  rw [← hbe] at HY1 ⊢
  clear hbe hb HB0 HX0
  generalize wb.alloc (.cells #[.int .i64 G0, .int .i64 R0, .int .i64 S0] 23) = wc at *
  refine (unhide H1 _).mono ?_
  unfold sopened
  rintro e wd ⟨rfl, hb⟩
  go_wp2_with fail
  have HB2 := hide (below_then (unhide HB1) (below_then hb (b_alloc wd (.cells #[.int .i64 G1, .int .i64 R1, .int .i64 S1] 23))))
  have HX2 := hide (((unhide HX1).then hb).then (b_alloc wd (.cells #[.int .i64 G1, .int .i64 R1, .int .i64 S1] 23)))
  have HY2 := hide (((unhide HY1).then hb).then (b_alloc wd (.cells #[.int .i64 G1, .int .i64 R1, .int .i64 S1] 23)))
  have HZ2 := hide (Bk.new wd (.int .i64 G1) (.int .i64 R1) (.int .i64 S1) 23)
  obtain ⟨b1, hbe⟩ : ∃ b, b = wd.heap.size := ⟨_, rfl⟩
  rw [← hbe] at HZ2 ⊢
  clear hbe hb HB1 HX1 HY1
  generalize wd.alloc (.cells #[.int .i64 G1, .int .i64 R1, .int .i64 S1] 23) = we at *
  obtain ⟨x0, x1, x2, _⟩ := (unhide HY2).cells
  obtain ⟨y0, y1, y2, _⟩ := (unhide HZ2).cells
  obtain ⟨d0, d1, d2, df⟩ := (unhide HX2).cells
  clear HY2 HZ2 HX2 H0 H1
  go_quiet (fail)
  go_wp2
  refine bodyPost_ret (v := sopened (G1, R1, S1, 0)) ?_ rfl ⟨rfl, ?_⟩
  · rw [results_cell_tmp rfl]
    go_simp <;> rfl
  · exact below_set (below_set (below_set (below_drewN (unhide HB2) _) (Nat.le_refl _)) (Nat.le_refl _)) (Nat.le_refl _)

set_option maxRecDepth 10000 in
set_option maxHeartbeats 2000000 in
theorem rchoose_ok_err (z o : ByteArray) (w : World) (G0 R0 S0 G1 R1 S1 : Int) (E0 E1 : Nat) (h0 : sopenR z = (G0, R0, S0, E0)) (h1 : sopenR o = (G1, R1, S1, E1)) (hE0 : E0 = 0) (hp0 : Int.tmod G0 2 = 0) (hE1 : E1 ≠ 0) :
    Calls Tryd.prog 17 #[.string z, .string o] w fun e w' => e = .returned (sopened (G0, R0, S0, 0)) ∧ Below w.heap.size w w' := by
  have k0 := fun W => rsopen_any z W
  have k1 := fun W => rsopen_any o W
  rw [h0] at k0
  rw [h1] at k1
  clear h0 h1
  subst hE0
  have e1 : ((E1 : Int) == 0) = false := beq_eq_false_iff_ne.2 (by omega)
  clear hE1
  have H0 := hide k0
  have H1 := hide k1
  clear k0 k1
  go_enter Tryd.func17, Tryd.ntmps17
  go_wp2_with fail
  have HB0 := hide (b_alloc w (.cells #[.int .i64 0, .int .i64 0, .int .i64 0] 23))
  have HX0 := hide (Bk.new w (.int .i64 0) (.int .i64 0) (.int .i64 0) 23)
  generalize w.alloc (.cells #[.int .i64 0, .int .i64 0, .int .i64 0] 23) = w0 at *
  refine (unhide H0 _).mono ?_
  unfold sopened
  rintro e wb ⟨rfl, hb⟩
  go_wp2_with fail
  have HB1 := hide (below_then (unhide HB0) (below_then hb (b_alloc wb (.cells #[.int .i64 G0, .int .i64 R0, .int .i64 S0] 23))))
  have HX1 := hide (((unhide HX0).then hb).then (b_alloc wb (.cells #[.int .i64 G0, .int .i64 R0, .int .i64 S0] 23)))
  have HY1 := hide (Bk.new wb (.int .i64 G0) (.int .i64 R0) (.int .i64 S0) 23)
  obtain ⟨b0, hbe⟩ : ∃ b, b = wb.heap.size := ⟨_, rfl⟩
  rw [← hbe] at HY1 ⊢
  clear hbe hb HB0 HX0
  generalize wb.alloc (.cells #[.int .i64 G0, .int .i64 R0, .int .i64 S0] 23) = wc at *
  refine (unhide H1 _).mono ?_
  unfold sopened
  rintro e wd ⟨rfl, hb⟩
  go_wp2_with fail
  have HB2 := hide (below_then (unhide HB1) (below_then hb (b_alloc wd (.cells #[.int .i64 G1, .int .i64 R1, .int .i64 S1] 23))))
  have HX2 := hide (((unhide HX1).then hb).then (b_alloc wd (.cells #[.int .i64 G1, .int .i64 R1, .int .i64 S1] 23)))
  have HY2 := hide (((unhide HY1).then hb).then (b_alloc wd (.cells #[.int .i64 G1, .int .i64 R1, .int .i64 S1] 23)))
  have HZ2 := hide (Bk.new wd (.int .i64 G1) (.int .i64 R1) (.int .i64 S1) 23)
  obtain ⟨b1, hbe⟩ : ∃ b, b = wd.heap.size := ⟨_, rfl⟩
  rw [← hbe] at HZ2 ⊢
  clear hbe hb HB1 HX1 HY1
  generalize wd.alloc (.cells #[.int .i64 G1, .int .i64 R1, .int .i64 S1] 23) = we at *
  obtain ⟨x0, x1, x2, _⟩ := (unhide HY2).cells
  obtain ⟨y0, y1, y2, _⟩ := (unhide HZ2).cells
  obtain ⟨d0, d1, d2, df⟩ := (unhide HX2).cells
  clear HY2 HZ2 HX2 H0 H1
  go_quiet (fail)
  go_wp2
  refine bodyPost_ret (v := sopened (G0, R0, S0, 0)) ?_ rfl ⟨rfl, ?_⟩
  · rw [results_cell_tmp rfl]
    go_simp <;> rfl
  · exact below_set (below_set (below_set (below_drewN (unhide HB2) _) (Nat.le_refl _)) (Nat.le_refl _)) (Nat.le_refl _)

set_option maxRecDepth 10000 in
set_option maxHeartbeats 2000000 in
theorem rchoose_ok_par (z o : ByteArray) (w : World) (G0 R0 S0 G1 R1 S1 : Int) (E0 E1 : Nat) (h0 : sopenR z = (G0, R0, S0, E0)) (h1 : sopenR o = (G1, R1, S1, E1)) (hE0 : E0 = 0) (hp0 : Int.tmod G0 2 = 0) (hE1 : E1 = 0) (hp1 : Int.tmod G1 2 = 0) :
    Calls Tryd.prog 17 #[.string z, .string o] w fun e w' => e = .returned (sopened (G0, R0, S0, 0)) ∧ Below w.heap.size w w' := by
  have k0 := fun W => rsopen_any z W
  have k1 := fun W => rsopen_any o W
  rw [h0] at k0
  rw [h1] at k1
  clear h0 h1
  subst hE0
  subst hE1
  have H0 := hide k0
  have H1 := hide k1
  clear k0 k1
  go_enter Tryd.func17, Tryd.ntmps17
  go_wp2_with fail
  have HB0 := hide (b_alloc w (.cells #[.int .i64 0, .int .i64 0, .int .i64 0] 23))
  have HX0 := hide (Bk.new w (.int .i64 0) (.int .i64 0) (.int .i64 0) 23)
  generalize w.alloc (.cells #[.int .i64 0, .int .i64 0, .int .i64 0] 23) = w0 at *
  refine (unhide H0 _).mono ?_
  unfold sopened
  rintro e wb ⟨rfl, hb⟩
  go_wp2_with fail
  have HB1 := hide (below_then (unhide HB0) (below_then hb (b_alloc wb (.cells #[.int .i64 G0, .int .i64 R0, .int .i64 S0] 23))))
  have HX1 := hide (((unhide HX0).then hb).then (b_alloc wb (.cells #[.int .i64 G0, .int .i64 R0, .int .i64 S0] 23)))
  have HY1 := hide (Bk.new wb (.int .i64 G0) (.int .i64 R0) (.int .i64 S0) 23)
  obtain ⟨b0, hbe⟩ : ∃ b, b = wb.heap.size := ⟨_, rfl⟩
  rw [← hbe] at HY1 ⊢
  clear hbe hb HB0 HX0
  generalize wb.alloc (.cells #[.int .i64 G0, .int .i64 R0, .int .i64 S0] 23) = wc at *
  refine (unhide H1 _).mono ?_
  unfold sopened
  rintro e wd ⟨rfl, hb⟩
  go_wp2_with fail
  have HB2 := hide (below_then (unhide HB1) (below_then hb (b_alloc wd (.cells #[.int .i64 G1, .int .i64 R1, .int .i64 S1] 23))))
  have HX2 := hide (((unhide HX1).then hb).then (b_alloc wd (.cells #[.int .i64 G1, .int .i64 R1, .int .i64 S1] 23)))
  have HY2 := hide (((unhide HY1).then hb).then (b_alloc wd (.cells #[.int .i64 G1, .int .i64 R1, .int .i64 S1] 23)))
  have HZ2 := hide (Bk.new wd (.int .i64 G1) (.int .i64 R1) (.int .i64 S1) 23)
  obtain ⟨b1, hbe⟩ : ∃ b, b = wd.heap.size := ⟨_, rfl⟩
  rw [← hbe] at HZ2 ⊢
  clear hbe hb HB1 HX1 HY1
  generalize wd.alloc (.cells #[.int .i64 G1, .int .i64 R1, .int .i64 S1] 23) = we at *
  obtain ⟨x0, x1, x2, _⟩ := (unhide HY2).cells
  obtain ⟨y0, y1, y2, _⟩ := (unhide HZ2).cells
  obtain ⟨d0, d1, d2, df⟩ := (unhide HX2).cells
  clear HY2 HZ2 HX2 H0 H1
  go_quiet (fail)
  go_wp2
  refine bodyPost_ret (v := sopened (G0, R0, S0, 0)) ?_ rfl ⟨rfl, ?_⟩
  · rw [results_cell_tmp rfl]
    go_simp <;> rfl
  · exact below_set (below_set (below_set (below_drewN (unhide HB2) _) (Nat.le_refl _)) (Nat.le_refl _)) (Nat.le_refl _)

set_option maxRecDepth 10000 in
set_option maxHeartbeats 2000000 in
theorem rchoose_ok_okgt (z o : ByteArray) (w : World) (G0 R0 S0 G1 R1 S1 : Int) (E0 E1 : Nat) (h0 : sopenR z = (G0, R0, S0, E0)) (h1 : sopenR o = (G1, R1, S1, E1)) (hE0 : E0 = 0) (hp0 : Int.tmod G0 2 = 0) (hE1 : E1 = 0) (hp1 : Int.tmod G1 2 = 1) (hg : G0 ≤ G1) :
    Calls Tryd.prog 17 #[.string z, .string o] w fun e w' => e = .returned (sopened (G1, R1, S1, 0)) ∧ Below w.heap.size w w' := by
  have k0 := fun W => rsopen_any z W
  have k1 := fun W => rsopen_any o W
  rw [h0] at k0
  rw [h1] at k1
  clear h0 h1
  subst hE0
  subst hE1
  have hgd : decide (G1 < G0) = false := decide_eq_false (by omega)
  have H0 := hide k0
  have H1 := hide k1
  clear k0 k1
  go_enter Tryd.func17, Tryd.ntmps17
  go_wp2_with fail
  have HB0 := hide (b_alloc w (.cells #[.int .i64 0, .int .i64 0, .int .i64 0] 23))
  have HX0 := hide (Bk.new w (.int .i64 0) (.int .i64 0) (.int .i64 0) 23)
  generalize w.alloc (.cells #[.int .i64 0, .int .i64 0, .int .i64 0] 23) = w0 at *
  refine (unhide H0 _).mono ?_
  unfold sopened
  rintro e wb ⟨rfl, hb⟩
  go_wp2_with fail
  have HB1 := hide (below_then (unhide HB0) (below_then hb (b_alloc wb (.cells #[.int .i64 G0, .int .i64 R0, .int .i64 S0] 23))))
  have HX1 := hide (((unhide HX0).then hb).then (b_alloc wb (.cells #[.int .i64 G0, .int .i64 R0, .int .i64 S0] 23)))
  have HY1 := hide (Bk.new wb (.int .i64 G0) (.int .i64 R0) (.int .i64 S0) 23)
  obtain ⟨b0, hbe⟩ : ∃ b, b = wb.heap.size := ⟨_, rfl⟩
  rw [← hbe] at HY1 ⊢
  clear hbe hb HB0 HX0
  generalize wb.alloc (.cells #[.int .i64 G0, .int .i64 R0, .int .i64 S0] 23) = wc at *
  refine (unhide H1 _).mono ?_
  unfold sopened
  rintro e wd ⟨rfl, hb⟩
  go_wp2_with fail
  have HB2 := hide (below_then (unhide HB1) (below_then hb (b_alloc wd (.cells #[.int .i64 G1, .int .i64 R1, .int .i64 S1] 23))))
  have HX2 := hide (((unhide HX1).then hb).then (b_alloc wd (.cells #[.int .i64 G1, .int .i64 R1, .int .i64 S1] 23)))
  have HY2 := hide (((unhide HY1).then hb).then (b_alloc wd (.cells #[.int .i64 G1, .int .i64 R1, .int .i64 S1] 23)))
  have HZ2 := hide (Bk.new wd (.int .i64 G1) (.int .i64 R1) (.int .i64 S1) 23)
  obtain ⟨b1, hbe⟩ : ∃ b, b = wd.heap.size := ⟨_, rfl⟩
  rw [← hbe] at HZ2 ⊢
  clear hbe hb HB1 HX1 HY1
  generalize wd.alloc (.cells #[.int .i64 G1, .int .i64 R1, .int .i64 S1] 23) = we at *
  obtain ⟨x0, x1, x2, _⟩ := (unhide HY2).cells
  obtain ⟨y0, y1, y2, _⟩ := (unhide HZ2).cells
  obtain ⟨d0, d1, d2, df⟩ := (unhide HX2).cells
  clear HY2 HZ2 HX2 H0 H1
  go_quiet (fail)
  go_wp2
  refine bodyPost_ret (v := sopened (G1, R1, S1, 0)) ?_ rfl ⟨rfl, ?_⟩
  · rw [results_cell_tmp rfl]
    go_simp <;> rfl
  · exact below_set (below_set (below_set (below_drewN (unhide HB2) _) (Nat.le_refl _)) (Nat.le_refl _)) (Nat.le_refl _)

set_option maxRecDepth 10000 in
set_option maxHeartbeats 2000000 in
theorem rchoose_ok_okle (z o : ByteArray) (w : World) (G0 R0 S0 G1 R1 S1 : Int) (E0 E1 : Nat) (h0 : sopenR z = (G0, R0, S0, E0)) (h1 : sopenR o = (G1, R1, S1, E1)) (hE0 : E0 = 0) (hp0 : Int.tmod G0 2 = 0) (hE1 : E1 = 0) (hp1 : Int.tmod G1 2 = 1) (hg : G1 < G0) :
    Calls Tryd.prog 17 #[.string z, .string o] w fun e w' => e = .returned (sopened (G0, R0, S0, 0)) ∧ Below w.heap.size w w' := by
  have k0 := fun W => rsopen_any z W
  have k1 := fun W => rsopen_any o W
  rw [h0] at k0
  rw [h1] at k1
  clear h0 h1
  subst hE0
  subst hE1
  have hgd : decide (G1 < G0) = true := decide_eq_true hg
  have H0 := hide k0
  have H1 := hide k1
  clear k0 k1
  go_enter Tryd.func17, Tryd.ntmps17
  go_wp2_with fail
  have HB0 := hide (b_alloc w (.cells #[.int .i64 0, .int .i64 0, .int .i64 0] 23))
  have HX0 := hide (Bk.new w (.int .i64 0) (.int .i64 0) (.int .i64 0) 23)
  generalize w.alloc (.cells #[.int .i64 0, .int .i64 0, .int .i64 0] 23) = w0 at *
  refine (unhide H0 _).mono ?_
  unfold sopened
  rintro e wb ⟨rfl, hb⟩
  go_wp2_with fail
  have HB1 := hide (below_then (unhide HB0) (below_then hb (b_alloc wb (.cells #[.int .i64 G0, .int .i64 R0, .int .i64 S0] 23))))
  have HX1 := hide (((unhide HX0).then hb).then (b_alloc wb (.cells #[.int .i64 G0, .int .i64 R0, .int .i64 S0] 23)))
  have HY1 := hide (Bk.new wb (.int .i64 G0) (.int .i64 R0) (.int .i64 S0) 23)
  obtain ⟨b0, hbe⟩ : ∃ b, b = wb.heap.size := ⟨_, rfl⟩
  rw [← hbe] at HY1 ⊢
  clear hbe hb HB0 HX0
  generalize wb.alloc (.cells #[.int .i64 G0, .int .i64 R0, .int .i64 S0] 23) = wc at *
  refine (unhide H1 _).mono ?_
  unfold sopened
  rintro e wd ⟨rfl, hb⟩
  go_wp2_with fail
  have HB2 := hide (below_then (unhide HB1) (below_then hb (b_alloc wd (.cells #[.int .i64 G1, .int .i64 R1, .int .i64 S1] 23))))
  have HX2 := hide (((unhide HX1).then hb).then (b_alloc wd (.cells #[.int .i64 G1, .int .i64 R1, .int .i64 S1] 23)))
  have HY2 := hide (((unhide HY1).then hb).then (b_alloc wd (.cells #[.int .i64 G1, .int .i64 R1, .int .i64 S1] 23)))
  have HZ2 := hide (Bk.new wd (.int .i64 G1) (.int .i64 R1) (.int .i64 S1) 23)
  obtain ⟨b1, hbe⟩ : ∃ b, b = wd.heap.size := ⟨_, rfl⟩
  rw [← hbe] at HZ2 ⊢
  clear hbe hb HB1 HX1 HY1
  generalize wd.alloc (.cells #[.int .i64 G1, .int .i64 R1, .int .i64 S1] 23) = we at *
  obtain ⟨x0, x1, x2, _⟩ := (unhide HY2).cells
  obtain ⟨y0, y1, y2, _⟩ := (unhide HZ2).cells
  obtain ⟨d0, d1, d2, df⟩ := (unhide HX2).cells
  clear HY2 HZ2 HX2 H0 H1
  go_quiet (fail)
  go_wp2
  refine bodyPost_ret (v := sopened (G0, R0, S0, 0)) ?_ rfl ⟨rfl, ?_⟩
  · rw [results_cell_tmp rfl]
    go_simp <;> rfl
  · exact below_set (below_set (below_set (below_drewN (unhide HB2) _) (Nat.le_refl _)) (Nat.le_refl _)) (Nat.le_refl _)

theorem sopen_good {t : ByteArray} {G R S : Int} (h : sopenR t = (G, R, S, 0)) : MayB G R S := by
  have h1 := (swrap_sopen (t := t) (by rw [h])).2
  rw [h] at h1
  exact h1
theorem tmod_two {G : Int} (h : 0 ≤ G) : Int.tmod G 2 = G % 2 := Int.tmod_eq_emod_of_nonneg h
theorem and_two {G : Int} (h : 0 ≤ G) (h2 : G ≤ 1152921504606846976) : bits .and .i64 G 1 = G % 2 := by
  obtain ⟨g, rfl⟩ := Int.eq_ofNat_of_zero_le h
  rw [and_one g (by omega)]
  omega
theorem choose_any (z o : ByteArray) (w : World) (hT : Tab w) :
    Calls Tryd.prog 16 #[.string z, .string o] w fun e w' => e = .returned (sopened (chooseR z o)) ∧ Below w.heap.size w w' := by
  unfold chooseR
  generalize hz : sopenR z = A
  generalize ho : sopenR o = B
  obtain ⟨G0, R0, S0, E0⟩ := A
  obtain ⟨G1, R1, S1, E1⟩ := B
  dsimp only
  by_cases hE0 : E0 = 0
  · subst hE0
    have m0 := sopen_good hz
    have q0 := and_two m0.1.1 m0.1.2
    by_cases hE1 : E1 = 0
    · subst hE1
      have m1 := sopen_good ho
      have q1 := and_two m1.1.1 m1.1.2
      by_cases p0 : G0 % 2 = 0
      · by_cases p1 : G1 % 2 = 1
        · by_cases hg : G1 ≤ G0
          · rw [if_pos ⟨⟨rfl, p0⟩, .inr (by omega)⟩]
            exact choose_ok_okle z o w hT _ _ _ _ _ _ _ _ hz ho rfl (by omega) m0.2.1.1 rfl (by omega) m1.2.1.1 hg
          · rw [if_neg (fun h => by obtain ⟨_, h | h⟩ := h; exact h ⟨rfl, p1⟩; omega), if_pos ⟨rfl, p1⟩]
            exact choose_ok_okgt z o w hT _ _ _ _ _ _ _ _ hz ho rfl (by omega) m0.2.1.1 rfl (by omega) m1.2.1.1 (by omega)
        · rw [if_pos ⟨⟨rfl, p0⟩, .inl (fun h => p1 h.2)⟩]
          exact choose_ok_par z o w hT _ _ _ _ _ _ _ _ hz ho rfl (by omega) m0.2.1.1 rfl (by omega) m1.2.1.1
      · rw [if_neg (fun h => p0 h.1.2)]
        by_cases p1 : G1 % 2 = 1
        · rw [if_pos ⟨rfl, p1⟩]
          exact choose_par_ok z o w hT _ _ _ _ _ _ _ _ hz ho rfl (by omega) m0.2.1.1 rfl (by omega) m1.2.1.1
        · rw [if_neg (fun h => p1 h.2)]
          exact choose_par_par z o w hT _ _ _ _ _ _ _ _ hz ho rfl (by omega) m0.2.1.1 rfl (by omega) m1.2.1.1
    · by_cases p0 : G0 % 2 = 0
      · rw [if_pos ⟨⟨rfl, p0⟩, .inl (fun h => hE1 h.1)⟩]
        exact choose_ok_err z o w hT _ _ _ _ _ _ _ _ hz ho rfl (by omega) m0.2.1.1 hE1
      · rw [if_neg (fun h => p0 h.1.2), if_neg (fun h => hE1 h.1)]
        exact choose_par_err z o w hT _ _ _ _ _ _ _ _ hz ho rfl (by omega) m0.2.1.1 hE1
  · rw [if_neg (fun h => hE0 h.1.1)]
    by_cases hE1 : E1 = 0
    · subst hE1
      have m1 := sopen_good ho
      have q1 := and_two m1.1.1 m1.1.2
      by_cases p1 : G1 % 2 = 1
      · rw [if_pos ⟨rfl, p1⟩]
        exact choose_err_ok z o w hT _ _ _ _ _ _ _ _ hz ho hE0 rfl (by omega) m1.2.1.1
      · rw [if_neg (fun h => p1 h.2)]
        exact choose_err_par z o w hT _ _ _ _ _ _ _ _ hz ho hE0 rfl (by omega) m1.2.1.1
    · rw [if_neg (fun h => hE1 h.1)]
      exact choose_err_err z o w hT _ _ _ _ _ _ _ _ hz ho hE0 hE1
theorem rchoose_any (z o : ByteArray) (w : World) :
    Calls Tryd.prog 17 #[.string z, .string o] w fun e w' => e = .returned (sopened (chooseR z o)) ∧ Below w.heap.size w w' := by
  unfold chooseR
  generalize hz : sopenR z = A
  generalize ho : sopenR o = B
  obtain ⟨G0, R0, S0, E0⟩ := A
  obtain ⟨G1, R1, S1, E1⟩ := B
  dsimp only
  by_cases hE0 : E0 = 0
  · subst hE0
    have m0 := sopen_good hz
    have q0 := tmod_two m0.1.1
    by_cases hE1 : E1 = 0
    · subst hE1
      have m1 := sopen_good ho
      have q1 := tmod_two m1.1.1
      by_cases p0 : G0 % 2 = 0
      · by_cases p1 : G1 % 2 = 1
        · by_cases hg : G1 < G0
          · rw [if_pos ⟨⟨rfl, p0⟩, .inr hg⟩]
            exact rchoose_ok_okle z o w _ _ _ _ _ _ _ _ hz ho rfl (by omega) rfl (by omega) hg
          · rw [if_neg (fun h => by obtain ⟨_, h | h⟩ := h; exact h ⟨rfl, p1⟩; exact hg h), if_pos ⟨rfl, p1⟩]
            exact rchoose_ok_okgt z o w _ _ _ _ _ _ _ _ hz ho rfl (by omega) rfl (by omega) (by omega)
        · rw [if_pos ⟨⟨rfl, p0⟩, .inl (fun h => p1 h.2)⟩]
          exact rchoose_ok_par z o w _ _ _ _ _ _ _ _ hz ho rfl (by omega) rfl (by omega)
      · rw [if_neg (fun h => p0 h.1.2)]
        by_cases p1 : G1 % 2 = 1
        · rw [if_pos ⟨rfl, p1⟩]
          exact rchoose_par_ok z o w _ _ _ _ _ _ _ _ hz ho rfl (by omega) rfl (by omega)
        · rw [if_neg (fun h => p1 h.2)]
          exact rchoose_par_par z o w _ _ _ _ _ _ _ _ hz ho rfl (by omega) rfl (by omega)
    · by_cases p0 : G0 % 2 = 0
      · rw [if_pos ⟨⟨rfl, p0⟩, .inl (fun h => hE1 h.1)⟩]
        exact rchoose_ok_err z o w _ _ _ _ _ _ _ _ hz ho rfl (by omega) hE1
      · rw [if_neg (fun h => p0 h.1.2), if_neg (fun h => hE1 h.1)]
        exact rchoose_par_err z o w _ _ _ _ _ _ _ _ hz ho rfl (by omega) hE1
  · rw [if_neg (fun h => hE0 h.1.1)]
    by_cases hE1 : E1 = 0
    · subst hE1
      have m1 := sopen_good ho
      have q1 := tmod_two m1.1.1
      by_cases p1 : G1 % 2 = 1
      · rw [if_pos ⟨rfl, p1⟩]
        exact rchoose_err_ok z o w _ _ _ _ _ _ _ _ hz ho hE0 rfl (by omega)
      · rw [if_neg (fun h => p1 h.2)]
        exact rchoose_err_par z o w _ _ _ _ _ _ _ _ hz ho hE0 rfl (by omega)
    · rw [if_neg (fun h => hE1 h.1)]
      exact rchoose_err_err z o w _ _ _ _ _ _ _ _ hz ho hE0 hE1
end Go.Proofs.YtdkgifjmahkiaaaDoor
