/- What a super's Choose does: of two slots the document's one. -/
import Derived.Test.YtdkgifjmahkiaaaDoorSq
import Derived.LoopN
import Derived.Laws.PanicsMore
namespace Go.Proofs.YtdkgifjmahkiaaaDoor
open Go.ChangeShapes Go.WideShapes Go.ChangeAt Go.RowKit
open L4

theorem idx0 (z o : ByteArray) (w : World) : (Instr.index 45 (.agg #[.string z, .string o]) (.int .i64 0)).run Tryd.prog w = .ok (.string z) w := by
  simp [Instr.index, run_underlying Tryd.underlying45, asIntOf, go_sem]
theorem idx1 (z o : ByteArray) (w : World) : (Instr.index 45 (.agg #[.string z, .string o]) (.int .i64 1)).run Tryd.prog w = .ok (.string o) w := by
  simp [Instr.index, run_underlying Tryd.underlying45, asIntOf, go_sem]
theorem Bk.other {w : World} {b : Nat} {x y z : Value} {t : TypeId} (h : Bk w b x y z t) (p i : Nat) (v : Value) (hp : b ≠ p) : Bk (w.setCell ⟨p, i, none⟩ v) b x y z t := by
  unfold Bk at *
  simp [World.setCell, Array.getElem?_modify, h, Ne.symm hp]
/-- the answer's variable, the empty super, the newest one -/
def Cs (W w : World) (x y z : Int) : Prop := Below W.heap.size W w ∧ Bk w W.heap.size (.int .i64 0) (.int .i64 0) (.int .i64 0) 23 ∧ Bk w (W.heap.size + 1) (.int .i64 0) (.int .i64 0) (.int .i64 0) 23 ∧ Bk w (W.heap.size + 2) (.int .i64 x) (.int .i64 y) (.int .i64 z) 23
theorem Cs.then {W w w' : World} {x y z : Int} (h : Cs W w x y z) (hb : Below w.heap.size w w') : Cs W w' x y z := ⟨below_then h.1 hb, h.2.1.then hb, h.2.2.1.then hb, h.2.2.2.then hb⟩
theorem Cs.new (W : World) : Cs W (((W.alloc (.cells #[.int .i64 0, .int .i64 0, .int .i64 0] 23)).alloc (.cells #[.int .i64 0, .int .i64 0, .int .i64 0] 23)).alloc (.cells #[.int .i64 0, .int .i64 0, .int .i64 0] 23)) 0 0 0 := by
  have e1 : (W.alloc (.cells #[.int .i64 0, .int .i64 0, .int .i64 0] 23)).heap.size = W.heap.size + 1 := by simp
  have h1 := Bk.new W (.int .i64 0) (.int .i64 0) (.int .i64 0) 23
  have b1 := b_alloc W (.cells #[.int .i64 0, .int .i64 0, .int .i64 0] 23)
  generalize W.alloc (.cells #[.int .i64 0, .int .i64 0, .int .i64 0] 23) = W1 at *
  have e2 : (W1.alloc (.cells #[.int .i64 0, .int .i64 0, .int .i64 0] 23)).heap.size = W1.heap.size + 1 := by simp
  have h2 := Bk.new W1 (.int .i64 0) (.int .i64 0) (.int .i64 0) 23
  have b2 := b_alloc W1 (.cells #[.int .i64 0, .int .i64 0, .int .i64 0] 23)
  generalize W1.alloc (.cells #[.int .i64 0, .int .i64 0, .int .i64 0] 23) = W2 at *
  have h3 := Bk.new W2 (.int .i64 0) (.int .i64 0) (.int .i64 0) 23
  have b3 := b_alloc W2 (.cells #[.int .i64 0, .int .i64 0, .int .i64 0] 23)
  refine ⟨below_then (below_then b1 b2) b3, (h1.then b2).then b3, ?_, ?_⟩
  · have := h2.then b3
    rw [e1] at this
    exact this
  · rw [e2, e1] at h3
    exact h3
theorem Cs.cells {W w : World} {x y z : Int} (h : Cs W w x y z) : w.cell? ⟨W.heap.size + 1, 0, none⟩ = some (.int .i64 0) ∧ w.cell? ⟨W.heap.size + 1, 1, none⟩ = some (.int .i64 0) ∧ w.cell? ⟨W.heap.size + 1, 2, none⟩ = some (.int .i64 0) ∧ w.cell? ⟨W.heap.size + 2, 0, none⟩ = some (.int .i64 x) ∧ w.cell? ⟨W.heap.size + 2, 1, none⟩ = some (.int .i64 y) ∧ w.cell? ⟨W.heap.size + 2, 2, none⟩ = some (.int .i64 z) ∧
    (∀ i, w.frozen? ⟨W.heap.size + 2, i, none⟩ = false) ∧ (∀ i, w.frozen? ⟨W.heap.size, i, none⟩ = false) ∧ w.cell? ⟨W.heap.size, 0, none⟩ = some (.int .i64 0) ∧ w.cell? ⟨W.heap.size, 1, none⟩ = some (.int .i64 0) ∧ w.cell? ⟨W.heap.size, 2, none⟩ = some (.int .i64 0) :=
  ⟨h.2.2.1.cells.1, h.2.2.1.cells.2.1, h.2.2.1.cells.2.2.1, h.2.2.2.cells.1, h.2.2.2.cells.2.1, h.2.2.2.cells.2.2.1, h.2.2.2.cells.2.2.2, h.2.1.cells.2.2.2, h.2.1.cells.1, h.2.1.cells.2.1, h.2.1.cells.2.2.1⟩
theorem Cs.set {W w : World} {x y z : Int} (h : Cs W w x y z) (x' y' z' : Int) : Cs W (((w.setCell ⟨W.heap.size + 2, 0, none⟩ (.int .i64 x')).setCell ⟨W.heap.size + 2, 1, none⟩ (.int .i64 y')).setCell ⟨W.heap.size + 2, 2, none⟩ (.int .i64 z')) x' y' z' :=
  ⟨below_set (below_set (below_set h.1 (by omega)) (by omega)) (by omega), ((h.2.1.other _ _ _ (by omega)).other _ _ _ (by omega)).other _ _ _ (by omega), ((h.2.2.1.other _ _ _ (by omega)).other _ _ _ (by omega)).other _ _ _ (by omega), h.2.2.2.set _ _ _⟩
theorem Cs.end {W w : World} {x y z : Int} (h : Cs W w x y z) (x' y' z' : Value) : Below W.heap.size W (((w.setCell ⟨W.heap.size, 0, none⟩ x').setCell ⟨W.heap.size, 1, none⟩ y').setCell ⟨W.heap.size, 2, none⟩ z') :=
  below_set (below_set (below_set h.1 (Nat.le_refl _)) (Nat.le_refl _)) (Nat.le_refl _)

set_option maxRecDepth 10000 in
set_option maxHeartbeats 2000000 in
theorem choose_err_err (z o : ByteArray) (w : World) (hT : Tab w) (G0 R0 S0 G1 R1 S1 : Int) (E0 E1 : Nat) (h0 : sopenR z = (G0, R0, S0, E0)) (h1 : sopenR o = (G1, R1, S1, E1)) (hE0 : E0 ≠ 0) (hE1 : E1 ≠ 0) :
    Calls Tryd.prog 16 #[.string z, .string o] w fun e w' => e = .returned (sopened (0, 0, 0, 101)) ∧ Below w.heap.size w w' := by
  have k0 := fun W (hW : Tab W) => sopen_any z W hW
  have k1 := fun W (hW : Tab W) => sopen_any o W hW
  rw [h0] at k0
  rw [h1] at k1
  have HT := hide hT
  clear hT h0 h1
  have e0 : ((E0 : Int) == 0) = false := beq_eq_false_iff_ne.2 (by omega)
  have e0' : ((E0 : Int) != 0) = true := bne_iff_ne.2 (by omega)
  clear hE0
  have e1 : ((E1 : Int) == 0) = false := beq_eq_false_iff_ne.2 (by omega)
  have e1' : ((E1 : Int) != 0) = true := bne_iff_ne.2 (by omega)
  clear hE1
  have H0 := hide k0
  have H1 := hide k1
  clear k0 k1
  have i0 := idx0 z o
  have i1 := idx1 z o
  go_enter Tryd.func16, Tryd.ntmps16
  go_wp2_with fail
  have CA := hide (Cs.new w)
  generalize (((w.alloc (.cells #[.int .i64 0, .int .i64 0, .int .i64 0] 23)).alloc (.cells #[.int .i64 0, .int .i64 0, .int .i64 0] 23)).alloc (.cells #[.int .i64 0, .int .i64 0, .int .i64 0] 23)) = wa at *
  refine wp_loop_rounds 3 ?_
  rw [rounds_succ]
  go_wp2_with fail
  refine (unhide H0 _ ((unhide HT).below (unhide CA).1)).mono ?_
  unfold sopened
  rintro e wb ⟨rfl, hb⟩
  have CB := hide (((unhide CA).then hb).then (b_alloc wb (.cells #[.int .i64 G0, .int .i64 R0, .int .i64 S0] 23)))
  have DB := hide (Bk.new wb (.int .i64 G0) (.int .i64 R0) (.int .i64 S0) 23)
  clear hb CA
  obtain ⟨b0, hbe⟩ : ∃ b, b = wb.heap.size := ⟨_, rfl⟩
  rw [← hbe] at DB
  go_wp2
  rw [← hbe]
  clear hbe
  generalize wb.alloc (.cells #[.int .i64 G0, .int .i64 R0, .int .i64 S0] 23) = wc at *
  clear DB
  obtain ⟨wa, hwa⟩ : ∃ x, x = wc := ⟨_, rfl⟩
  subst hwa
  have CA := CB
  clear CB
  rw [rounds_succ]
  go_wp2_with fail
  refine (unhide H1 _ ((unhide HT).below (unhide CA).1)).mono ?_
  unfold sopened
  rintro e wb ⟨rfl, hb⟩
  have CB := hide (((unhide CA).then hb).then (b_alloc wb (.cells #[.int .i64 G1, .int .i64 R1, .int .i64 S1] 23)))
  have DB := hide (Bk.new wb (.int .i64 G1) (.int .i64 R1) (.int .i64 S1) 23)
  clear hb CA
  obtain ⟨b1, hbe⟩ : ∃ b, b = wb.heap.size := ⟨_, rfl⟩
  rw [← hbe] at DB
  go_wp2
  rw [← hbe]
  clear hbe
  generalize wb.alloc (.cells #[.int .i64 G1, .int .i64 R1, .int .i64 S1] 23) = wc at *
  clear DB
  obtain ⟨wa, hwa⟩ : ∃ x, x = wc := ⟨_, rfl⟩
  subst hwa
  have CA := CB
  clear CB
  rw [rounds_succ]
  obtain ⟨y0, y1, y2, z0, z1, z2, zf, yf, d0, d1, d2⟩ := (unhide CA).cells
  go_wp2
  refine bodyPost_ret (v := sopened (0, 0, 0, 101)) ?_ rfl ⟨rfl, ?_⟩
  · rw [results_cell_tmp rfl]
    go_simp <;> rfl
  · exact (unhide CA).end _ _ _

set_option maxRecDepth 10000 in
set_option maxHeartbeats 2000000 in
theorem choose_err_par (z o : ByteArray) (w : World) (hT : Tab w) (G0 R0 S0 G1 R1 S1 : Int) (E0 E1 : Nat) (h0 : sopenR z = (G0, R0, S0, E0)) (h1 : sopenR o = (G1, R1, S1, E1)) (hE0 : E0 ≠ 0) (hE1 : E1 = 0) (hp1 : bits .and .i64 G1 1 = 0) (hs1 : 8 ≤ S1) :
    Calls Tryd.prog 16 #[.string z, .string o] w fun e w' => e = .returned (sopened (0, 0, 0, 101)) ∧ Below w.heap.size w w' := by
  have k0 := fun W (hW : Tab W) => sopen_any z W hW
  have k1 := fun W (hW : Tab W) => sopen_any o W hW
  rw [h0] at k0
  rw [h1] at k1
  have HT := hide hT
  clear hT h0 h1
  have e0 : ((E0 : Int) == 0) = false := beq_eq_false_iff_ne.2 (by omega)
  have e0' : ((E0 : Int) != 0) = true := bne_iff_ne.2 (by omega)
  clear hE0
  subst hE1
  have q1 : ∀ w, Calls Tryd.prog 12 #[.int .i64 G1] w fun e w' => e = .returned (.int .i64 0) ∧ w' = w := fun w => by have h := slot_any G1 w; rw [hp1] at h; exact h
  have Q1 := hide q1
  have s1 : (S1 == 0) = false := beq_eq_false_iff_ne.2 (by omega)
  clear q1 hp1 hs1
  have H0 := hide k0
  have H1 := hide k1
  clear k0 k1
  have i0 := idx0 z o
  have i1 := idx1 z o
  go_enter Tryd.func16, Tryd.ntmps16
  go_wp2_with fail
  have CA := hide (Cs.new w)
  generalize (((w.alloc (.cells #[.int .i64 0, .int .i64 0, .int .i64 0] 23)).alloc (.cells #[.int .i64 0, .int .i64 0, .int .i64 0] 23)).alloc (.cells #[.int .i64 0, .int .i64 0, .int .i64 0] 23)) = wa at *
  refine wp_loop_rounds 3 ?_
  rw [rounds_succ]
  go_wp2_with fail
  refine (unhide H0 _ ((unhide HT).below (unhide CA).1)).mono ?_
  unfold sopened
  rintro e wb ⟨rfl, hb⟩
  have CB := hide (((unhide CA).then hb).then (b_alloc wb (.cells #[.int .i64 G0, .int .i64 R0, .int .i64 S0] 23)))
  have DB := hide (Bk.new wb (.int .i64 G0) (.int .i64 R0) (.int .i64 S0) 23)
  clear hb CA
  obtain ⟨b0, hbe⟩ : ∃ b, b = wb.heap.size := ⟨_, rfl⟩
  rw [← hbe] at DB
  go_wp2
  rw [← hbe]
  clear hbe
  generalize wb.alloc (.cells #[.int .i64 G0, .int .i64 R0, .int .i64 S0] 23) = wc at *
  clear DB
  obtain ⟨wa, hwa⟩ : ∃ x, x = wc := ⟨_, rfl⟩
  subst hwa
  have CA := CB
  clear CB
  rw [rounds_succ]
  go_wp2_with fail
  refine (unhide H1 _ ((unhide HT).below (unhide CA).1)).mono ?_
  unfold sopened
  rintro e wb ⟨rfl, hb⟩
  have CB := hide (((unhide CA).then hb).then (b_alloc wb (.cells #[.int .i64 G1, .int .i64 R1, .int .i64 S1] 23)))
  have DB := hide (Bk.new wb (.int .i64 G1) (.int .i64 R1) (.int .i64 S1) 23)
  clear hb CA
  obtain ⟨b1, hbe⟩ : ∃ b, b = wb.heap.size := ⟨_, rfl⟩
  rw [← hbe] at DB
  go_wp2_with fail
  rw [← hbe]
  clear hbe
  generalize wb.alloc (.cells #[.int .i64 G1, .int .i64 R1, .int .i64 S1] 23) = wc at *
  obtain ⟨x0, x1, x2, _⟩ := (unhide DB).cells
  obtain ⟨y0, y1, y2, z0, z1, z2, zf, _, _, _, _⟩ := (unhide CB).cells
  clear DB
  go_wp2_with (go_at_call 12; refine (unhide Q1 _).mono ?_; rintro e wc ⟨rfl, rfl⟩)
  clear x0 x1 x2 y0 y1 y2 z0 z1 z2 zf
  obtain ⟨wa, hwa⟩ : ∃ x, x = wc := ⟨_, rfl⟩
  subst hwa
  have CA := CB
  clear CB
  rw [rounds_succ]
  obtain ⟨y0, y1, y2, z0, z1, z2, zf, yf, d0, d1, d2⟩ := (unhide CA).cells
  go_wp2
  refine bodyPost_ret (v := sopened (0, 0, 0, 101)) ?_ rfl ⟨rfl, ?_⟩
  · rw [results_cell_tmp rfl]
    go_simp <;> rfl
  · exact (unhide CA).end _ _ _

set_option maxRecDepth 10000 in
set_option maxHeartbeats 2000000 in
theorem choose_err_ok (z o : ByteArray) (w : World) (hT : Tab w) (G0 R0 S0 G1 R1 S1 : Int) (E0 E1 : Nat) (h0 : sopenR z = (G0, R0, S0, E0)) (h1 : sopenR o = (G1, R1, S1, E1)) (hE0 : E0 ≠ 0) (hE1 : E1 = 0) (hp1 : bits .and .i64 G1 1 = 1) (hs1 : 8 ≤ S1) :
    Calls Tryd.prog 16 #[.string z, .string o] w fun e w' => e = .returned (sopened (G1, R1, S1, 0)) ∧ Below w.heap.size w w' := by
  have k0 := fun W (hW : Tab W) => sopen_any z W hW
  have k1 := fun W (hW : Tab W) => sopen_any o W hW
  rw [h0] at k0
  rw [h1] at k1
  have HT := hide hT
  clear hT h0 h1
  have e0 : ((E0 : Int) == 0) = false := beq_eq_false_iff_ne.2 (by omega)
  have e0' : ((E0 : Int) != 0) = true := bne_iff_ne.2 (by omega)
  clear hE0
  subst hE1
  have q1 : ∀ w, Calls Tryd.prog 12 #[.int .i64 G1] w fun e w' => e = .returned (.int .i64 1) ∧ w' = w := fun w => by have h := slot_any G1 w; rw [hp1] at h; exact h
  have Q1 := hide q1
  have s1 : (S1 == 0) = false := beq_eq_false_iff_ne.2 (by omega)
  clear q1 hp1 hs1
  have H0 := hide k0
  have H1 := hide k1
  clear k0 k1
  have i0 := idx0 z o
  have i1 := idx1 z o
  go_enter Tryd.func16, Tryd.ntmps16
  go_wp2_with fail
  have CA := hide (Cs.new w)
  generalize (((w.alloc (.cells #[.int .i64 0, .int .i64 0, .int .i64 0] 23)).alloc (.cells #[.int .i64 0, .int .i64 0, .int .i64 0] 23)).alloc (.cells #[.int .i64 0, .int .i64 0, .int .i64 0] 23)) = wa at *
  refine wp_loop_rounds 3 ?_
  rw [rounds_succ]
  go_wp2_with fail
  refine (unhide H0 _ ((unhide HT).below (unhide CA).1)).mono ?_
  unfold sopened
  rintro e wb ⟨rfl, hb⟩
  have CB := hide (((unhide CA).then hb).then (b_alloc wb (.cells #[.int .i64 G0, .int .i64 R0, .int .i64 S0] 23)))
  have DB := hide (Bk.new wb (.int .i64 G0) (.int .i64 R0) (.int .i64 S0) 23)
  clear hb CA
  obtain ⟨b0, hbe⟩ : ∃ b, b = wb.heap.size := ⟨_, rfl⟩
  rw [← hbe] at DB
  go_wp2
  rw [← hbe]
  clear hbe
  generalize wb.alloc (.cells #[.int .i64 G0, .int .i64 R0, .int .i64 S0] 23) = wc at *
  clear DB
  obtain ⟨wa, hwa⟩ : ∃ x, x = wc := ⟨_, rfl⟩
  subst hwa
  have CA := CB
  clear CB
  rw [rounds_succ]
  go_wp2_with fail
  refine (unhide H1 _ ((unhide HT).below (unhide CA).1)).mono ?_
  unfold sopened
  rintro e wb ⟨rfl, hb⟩
  have CB := hide (((unhide CA).then hb).then (b_alloc wb (.cells #[.int .i64 G1, .int .i64 R1, .int .i64 S1] 23)))
  have DB := hide (Bk.new wb (.int .i64 G1) (.int .i64 R1) (.int .i64 S1) 23)
  clear hb CA
  obtain ⟨b1, hbe⟩ : ∃ b, b = wb.heap.size := ⟨_, rfl⟩
  rw [← hbe] at DB
  go_wp2_with fail
  rw [← hbe]
  clear hbe
  generalize wb.alloc (.cells #[.int .i64 G1, .int .i64 R1, .int .i64 S1] 23) = wc at *
  obtain ⟨x0, x1, x2, _⟩ := (unhide DB).cells
  obtain ⟨y0, y1, y2, z0, z1, z2, zf, _, _, _, _⟩ := (unhide CB).cells
  clear DB
  go_wp2_with (go_at_call 12; refine (unhide Q1 _).mono ?_; rintro e wc ⟨rfl, rfl⟩)
  clear x0 x1 x2 y0 y1 y2 z0 z1 z2 zf
  have CA := hide ((unhide CB).set G1 R1 S1)
  clear CB
  generalize (((wc.setCell ⟨w.heap.size + 2, 0, none⟩ (.int .i64 G1)).setCell ⟨w.heap.size + 2, 1, none⟩ (.int .i64 R1)).setCell ⟨w.heap.size + 2, 2, none⟩ (.int .i64 S1)) = wa at *
  rw [rounds_succ]
  obtain ⟨y0, y1, y2, z0, z1, z2, zf, yf, d0, d1, d2⟩ := (unhide CA).cells
  go_wp2
  refine bodyPost_ret (v := sopened (G1, R1, S1, 0)) ?_ rfl ⟨rfl, ?_⟩
  · rw [results_cell_tmp rfl]
    go_simp <;> rfl
  · exact (unhide CA).end _ _ _

set_option maxRecDepth 10000 in
set_option maxHeartbeats 2000000 in
theorem choose_par_err (z o : ByteArray) (w : World) (hT : Tab w) (G0 R0 S0 G1 R1 S1 : Int) (E0 E1 : Nat) (h0 : sopenR z = (G0, R0, S0, E0)) (h1 : sopenR o = (G1, R1, S1, E1)) (hE0 : E0 = 0) (hp0 : bits .and .i64 G0 1 = 1) (hs0 : 8 ≤ S0) (hE1 : E1 ≠ 0) :
    Calls Tryd.prog 16 #[.string z, .string o] w fun e w' => e = .returned (sopened (0, 0, 0, 101)) ∧ Below w.heap.size w w' := by
  have k0 := fun W (hW : Tab W) => sopen_any z W hW
  have k1 := fun W (hW : Tab W) => sopen_any o W hW
  rw [h0] at k0
  rw [h1] at k1
  have HT := hide hT
  clear hT h0 h1
  subst hE0
  have q0 : ∀ w, Calls Tryd.prog 12 #[.int .i64 G0] w fun e w' => e = .returned (.int .i64 1) ∧ w' = w := fun w => by have h := slot_any G0 w; rw [hp0] at h; exact h
  have Q0 := hide q0
  have s0 : (S0 == 0) = false := beq_eq_false_iff_ne.2 (by omega)
  clear q0 hp0 hs0
  have e1 : ((E1 : Int) == 0) = false := beq_eq_false_iff_ne.2 (by omega)
  have e1' : ((E1 : Int) != 0) = true := bne_iff_ne.2 (by omega)
  clear hE1
  have H0 := hide k0
  have H1 := hide k1
  clear k0 k1
  have i0 := idx0 z o
  have i1 := idx1 z o
  go_enter Tryd.func16, Tryd.ntmps16
  go_wp2_with fail
  have CA := hide (Cs.new w)
  generalize (((w.alloc (.cells #[.int .i64 0, .int .i64 0, .int .i64 0] 23)).alloc (.cells #[.int .i64 0, .int .i64 0, .int .i64 0] 23)).alloc (.cells #[.int .i64 0, .int .i64 0, .int .i64 0] 23)) = wa at *
  refine wp_loop_rounds 3 ?_
  rw [rounds_succ]
  go_wp2_with fail
  refine (unhide H0 _ ((unhide HT).below (unhide CA).1)).mono ?_
  unfold sopened
  rintro e wb ⟨rfl, hb⟩
  have CB := hide (((unhide CA).then hb).then (b_alloc wb (.cells #[.int .i64 G0, .int .i64 R0, .int .i64 S0] 23)))
  have DB := hide (Bk.new wb (.int .i64 G0) (.int .i64 R0) (.int .i64 S0) 23)
  clear hb CA
  obtain ⟨b0, hbe⟩ : ∃ b, b = wb.heap.size := ⟨_, rfl⟩
  rw [← hbe] at DB
  go_wp2_with fail
  rw [← hbe]
  clear hbe
  generalize wb.alloc (.cells #[.int .i64 G0, .int .i64 R0, .int .i64 S0] 23) = wc at *
  obtain ⟨x0, x1, x2, _⟩ := (unhide DB).cells
  obtain ⟨y0, y1, y2, z0, z1, z2, zf, _, _, _, _⟩ := (unhide CB).cells
  clear DB
  go_wp2_with (go_at_call 12; refine (unhide Q0 _).mono ?_; rintro e wc ⟨rfl, rfl⟩)
  clear x0 x1 x2 y0 y1 y2 z0 z1 z2 zf
  obtain ⟨wa, hwa⟩ : ∃ x, x = wc := ⟨_, rfl⟩
  subst hwa
  have CA := CB
  clear CB
  rw [rounds_succ]
  go_wp2_with fail
  refine (unhide H1 _ ((unhide HT).below (unhide CA).1)).mono ?_
  unfold sopened
  rintro e wb ⟨rfl, hb⟩
  have CB := hide (((unhide CA).then hb).then (b_alloc wb (.cells #[.int .i64 G1, .int .i64 R1, .int .i64 S1] 23)))
  have DB := hide (Bk.new wb (.int .i64 G1) (.int .i64 R1) (.int .i64 S1) 23)
  clear hb CA
  obtain ⟨b1, hbe⟩ : ∃ b, b = wb.heap.size := ⟨_, rfl⟩
  rw [← hbe] at DB
  go_wp2
  rw [← hbe]
  clear hbe
  generalize wb.alloc (.cells #[.int .i64 G1, .int .i64 R1, .int .i64 S1] 23) = wc at *
  clear DB
  obtain ⟨wa, hwa⟩ : ∃ x, x = wc := ⟨_, rfl⟩
  subst hwa
  have CA := CB
  clear CB
  rw [rounds_succ]
  obtain ⟨y0, y1, y2, z0, z1, z2, zf, yf, d0, d1, d2⟩ := (unhide CA).cells
  go_wp2
  refine bodyPost_ret (v := sopened (0, 0, 0, 101)) ?_ rfl ⟨rfl, ?_⟩
  · rw [results_cell_tmp rfl]
    go_simp <;> rfl
  · exact (unhide CA).end _ _ _

set_option maxRecDepth 10000 in
set_option maxHeartbeats 2000000 in
theorem choose_par_par (z o : ByteArray) (w : World) (hT : Tab w) (G0 R0 S0 G1 R1 S1 : Int) (E0 E1 : Nat) (h0 : sopenR z = (G0, R0, S0, E0)) (h1 : sopenR o = (G1, R1, S1, E1)) (hE0 : E0 = 0) (hp0 : bits .and .i64 G0 1 = 1) (hs0 : 8 ≤ S0) (hE1 : E1 = 0) (hp1 : bits .and .i64 G1 1 = 0) (hs1 : 8 ≤ S1) :
    Calls Tryd.prog 16 #[.string z, .string o] w fun e w' => e = .returned (sopened (0, 0, 0, 101)) ∧ Below w.heap.size w w' := by
  have k0 := fun W (hW : Tab W) => sopen_any z W hW
  have k1 := fun W (hW : Tab W) => sopen_any o W hW
  rw [h0] at k0
  rw [h1] at k1
  have HT := hide hT
  clear hT h0 h1
  subst hE0
  have q0 : ∀ w, Calls Tryd.prog 12 #[.int .i64 G0] w fun e w' => e = .returned (.int .i64 1) ∧ w' = w := fun w => by have h := slot_any G0 w; rw [hp0] at h; exact h
  have Q0 := hide q0
  have s0 : (S0 == 0) = false := beq_eq_false_iff_ne.2 (by omega)
  clear q0 hp0 hs0
  subst hE1
  have q1 : ∀ w, Calls Tryd.prog 12 #[.int .i64 G1] w fun e w' => e = .returned (.int .i64 0) ∧ w' = w := fun w => by have h := slot_any G1 w; rw [hp1] at h; exact h
  have Q1 := hide q1
  have s1 : (S1 == 0) = false := beq_eq_false_iff_ne.2 (by omega)
  clear q1 hp1 hs1
  have H0 := hide k0
  have H1 := hide k1
  clear k0 k1
  have i0 := idx0 z o
  have i1 := idx1 z o
  go_enter Tryd.func16, Tryd.ntmps16
  go_wp2_with fail
  have CA := hide (Cs.new w)
  generalize (((w.alloc (.cells #[.int .i64 0, .int .i64 0, .int .i64 0] 23)).alloc (.cells #[.int .i64 0, .int .i64 0, .int .i64 0] 23)).alloc (.cells #[.int .i64 0, .int .i64 0, .int .i64 0] 23)) = wa at *
  refine wp_loop_rounds 3 ?_
  rw [rounds_succ]
  go_wp2_with fail
  refine (unhide H0 _ ((unhide HT).below (unhide CA).1)).mono ?_
  unfold sopened
  rintro e wb ⟨rfl, hb⟩
  have CB := hide (((unhide CA).then hb).then (b_alloc wb (.cells #[.int .i64 G0, .int .i64 R0, .int .i64 S0] 23)))
  have DB := hide (Bk.new wb (.int .i64 G0) (.int .i64 R0) (.int .i64 S0) 23)
  clear hb CA
  obtain ⟨b0, hbe⟩ : ∃ b, b = wb.heap.size := ⟨_, rfl⟩
  rw [← hbe] at DB
  go_wp2_with fail
  rw [← hbe]
  clear hbe
  generalize wb.alloc (.cells #[.int .i64 G0, .int .i64 R0, .int .i64 S0] 23) = wc at *
  obtain ⟨x0, x1, x2, _⟩ := (unhide DB).cells
  obtain ⟨y0, y1, y2, z0, z1, z2, zf, _, _, _, _⟩ := (unhide CB).cells
  clear DB
  go_wp2_with (go_at_call 12; refine (unhide Q0 _).mono ?_; rintro e wc ⟨rfl, rfl⟩)
  clear x0 x1 x2 y0 y1 y2 z0 z1 z2 zf
  obtain ⟨wa, hwa⟩ : ∃ x, x = wc := ⟨_, rfl⟩
  subst hwa
  have CA := CB
  clear CB
  rw [rounds_succ]
  go_wp2_with fail
  refine (unhide H1 _ ((unhide HT).below (unhide CA).1)).mono ?_
  unfold sopened
  rintro e wb ⟨rfl, hb⟩
  have CB := hide (((unhide CA).then hb).then (b_alloc wb (.cells #[.int .i64 G1, .int .i64 R1, .int .i64 S1] 23)))
  have DB := hide (Bk.new wb (.int .i64 G1) (.int .i64 R1) (.int .i64 S1) 23)
  clear hb CA
  obtain ⟨b1, hbe⟩ : ∃ b, b = wb.heap.size := ⟨_, rfl⟩
  rw [← hbe] at DB
  go_wp2_with fail
  rw [← hbe]
  clear hbe
  generalize wb.alloc (.cells #[.int .i64 G1, .int .i64 R1, .int .i64 S1] 23) = wc at *
  obtain ⟨x0, x1, x2, _⟩ := (unhide DB).cells
  obtain ⟨y0, y1, y2, z0, z1, z2, zf, _, _, _, _⟩ := (unhide CB).cells
  clear DB
  go_wp2_with (go_at_call 12; refine (unhide Q1 _).mono ?_; rintro e wc ⟨rfl, rfl⟩)
  clear x0 x1 x2 y0 y1 y2 z0 z1 z2 zf
  obtain ⟨wa, hwa⟩ : ∃ x, x = wc := ⟨_, rfl⟩
  subst hwa
  have CA := CB
  clear CB
  rw [rounds_succ]
  obtain ⟨y0, y1, y2, z0, z1, z2, zf, yf, d0, d1, d2⟩ := (unhide CA).cells
  go_wp2
  refine bodyPost_ret (v := sopened (0, 0, 0, 101)) ?_ rfl ⟨rfl, ?_⟩
  · rw [results_cell_tmp rfl]
    go_simp <;> rfl
  · exact (unhide CA).end _ _ _

set_option maxRecDepth 10000 in
set_option maxHeartbeats 2000000 in
theorem choose_par_ok (z o : ByteArray) (w : World) (hT : Tab w) (G0 R0 S0 G1 R1 S1 : Int) (E0 E1 : Nat) (h0 : sopenR z = (G0, R0, S0, E0)) (h1 : sopenR o = (G1, R1, S1, E1)) (hE0 : E0 = 0) (hp0 : bits .and .i64 G0 1 = 1) (hs0 : 8 ≤ S0) (hE1 : E1 = 0) (hp1 : bits .and .i64 G1 1 = 1) (hs1 : 8 ≤ S1) :
    Calls Tryd.prog 16 #[.string z, .string o] w fun e w' => e = .returned (sopened (G1, R1, S1, 0)) ∧ Below w.heap.size w w' := by
  have k0 := fun W (hW : Tab W) => sopen_any z W hW
  have k1 := fun W (hW : Tab W) => sopen_any o W hW
  rw [h0] at k0
  rw [h1] at k1
  have HT := hide hT
  clear hT h0 h1
  subst hE0
  have q0 : ∀ w, Calls Tryd.prog 12 #[.int .i64 G0] w fun e w' => e = .returned (.int .i64 1) ∧ w' = w := fun w => by have h := slot_any G0 w; rw [hp0] at h; exact h
  have Q0 := hide q0
  have s0 : (S0 == 0) = false := beq_eq_false_iff_ne.2 (by omega)
  clear q0 hp0 hs0
  subst hE1
  have q1 : ∀ w, Calls Tryd.prog 12 #[.int .i64 G1] w fun e w' => e = .returned (.int .i64 1) ∧ w' = w := fun w => by have h := slot_any G1 w; rw [hp1] at h; exact h
  have Q1 := hide q1
  have s1 : (S1 == 0) = false := beq_eq_false_iff_ne.2 (by omega)
  clear q1 hp1 hs1
  have H0 := hide k0
  have H1 := hide k1
  clear k0 k1
  have i0 := idx0 z o
  have i1 := idx1 z o
  go_enter Tryd.func16, Tryd.ntmps16
  go_wp2_with fail
  have CA := hide (Cs.new w)
  generalize (((w.alloc (.cells #[.int .i64 0, .int .i64 0, .int .i64 0] 23)).alloc (.cells #[.int .i64 0, .int .i64 0, .int .i64 0] 23)).alloc (.cells #[.int .i64 0, .int .i64 0, .int .i64 0] 23)) = wa at *
  refine wp_loop_rounds 3 ?_
  rw [rounds_succ]
  go_wp2_with fail
  refine (unhide H0 _ ((unhide HT).below (unhide CA).1)).mono ?_
  unfold sopened
  rintro e wb ⟨rfl, hb⟩
  have CB := hide (((unhide CA).then hb).then (b_alloc wb (.cells #[.int .i64 G0, .int .i64 R0, .int .i64 S0] 23)))
  have DB := hide (Bk.new wb (.int .i64 G0) (.int .i64 R0) (.int .i64 S0) 23)
  clear hb CA
  obtain ⟨b0, hbe⟩ : ∃ b, b = wb.heap.size := ⟨_, rfl⟩
  rw [← hbe] at DB
  go_wp2_with fail
  rw [← hbe]
  clear hbe
  generalize wb.alloc (.cells #[.int .i64 G0, .int .i64 R0, .int .i64 S0] 23) = wc at *
  obtain ⟨x0, x1, x2, _⟩ := (unhide DB).cells
  obtain ⟨y0, y1, y2, z0, z1, z2, zf, _, _, _, _⟩ := (unhide CB).cells
  clear DB
  go_wp2_with (go_at_call 12; refine (unhide Q0 _).mono ?_; rintro e wc ⟨rfl, rfl⟩)
  clear x0 x1 x2 y0 y1 y2 z0 z1 z2 zf
  obtain ⟨wa, hwa⟩ : ∃ x, x = wc := ⟨_, rfl⟩
  subst hwa
  have CA := CB
  clear CB
  rw [rounds_succ]
  go_wp2_with fail
  refine (unhide H1 _ ((unhide HT).below (unhide CA).1)).mono ?_
  unfold sopened
  rintro e wb ⟨rfl, hb⟩
  have CB := hide (((unhide CA).then hb).then (b_alloc wb (.cells #[.int .i64 G1, .int .i64 R1, .int .i64 S1] 23)))
  have DB := hide (Bk.new wb (.int .i64 G1) (.int .i64 R1) (.int .i64 S1) 23)
  clear hb CA
  obtain ⟨b1, hbe⟩ : ∃ b, b = wb.heap.size := ⟨_, rfl⟩
  rw [← hbe] at DB
  go_wp2_with fail
  rw [← hbe]
  clear hbe
  generalize wb.alloc (.cells #[.int .i64 G1, .int .i64 R1, .int .i64 S1] 23) = wc at *
  obtain ⟨x0, x1, x2, _⟩ := (unhide DB).cells
  obtain ⟨y0, y1, y2, z0, z1, z2, zf, _, _, _, _⟩ := (unhide CB).cells
  clear DB
  go_wp2_with (go_at_call 12; refine (unhide Q1 _).mono ?_; rintro e wc ⟨rfl, rfl⟩)
  clear x0 x1 x2 y0 y1 y2 z0 z1 z2 zf
  have CA := hide ((unhide CB).set G1 R1 S1)
  clear CB
  generalize (((wc.setCell ⟨w.heap.size + 2, 0, none⟩ (.int .i64 G1)).setCell ⟨w.heap.size + 2, 1, none⟩ (.int .i64 R1)).setCell ⟨w.heap.size + 2, 2, none⟩ (.int .i64 S1)) = wa at *
  rw [rounds_succ]
  obtain ⟨y0, y1, y2, z0, z1, z2, zf, yf, d0, d1, d2⟩ := (unhide CA).cells
  go_wp2
  refine bodyPost_ret (v := sopened (G1, R1, S1, 0)) ?_ rfl ⟨rfl, ?_⟩
  · rw [results_cell_tmp rfl]
    go_simp <;> rfl
  · exact (unhide CA).end _ _ _

set_option maxRecDepth 10000 in
set_option maxHeartbeats 2000000 in
theorem choose_ok_err (z o : ByteArray) (w : World) (hT : Tab w) (G0 R0 S0 G1 R1 S1 : Int) (E0 E1 : Nat) (h0 : sopenR z = (G0, R0, S0, E0)) (h1 : sopenR o = (G1, R1, S1, E1)) (hE0 : E0 = 0) (hp0 : bits .and .i64 G0 1 = 0) (hs0 : 8 ≤ S0) (hE1 : E1 ≠ 0) :
    Calls Tryd.prog 16 #[.string z, .string o] w fun e w' => e = .returned (sopened (G0, R0, S0, 0)) ∧ Below w.heap.size w w' := by
  have k0 := fun W (hW : Tab W) => sopen_any z W hW
  have k1 := fun W (hW : Tab W) => sopen_any o W hW
  rw [h0] at k0
  rw [h1] at k1
  have HT := hide hT
  clear hT h0 h1
  subst hE0
  have q0 : ∀ w, Calls Tryd.prog 12 #[.int .i64 G0] w fun e w' => e = .returned (.int .i64 0) ∧ w' = w := fun w => by have h := slot_any G0 w; rw [hp0] at h; exact h
  have Q0 := hide q0
  have s0 : (S0 == 0) = false := beq_eq_false_iff_ne.2 (by omega)
  clear q0 hp0 hs0
  have e1 : ((E1 : Int) == 0) = false := beq_eq_false_iff_ne.2 (by omega)
  have e1' : ((E1 : Int) != 0) = true := bne_iff_ne.2 (by omega)
  clear hE1
  have H0 := hide k0
  have H1 := hide k1
  clear k0 k1
  have i0 := idx0 z o
  have i1 := idx1 z o
  go_enter Tryd.func16, Tryd.ntmps16
  go_wp2_with fail
  have CA := hide (Cs.new w)
  generalize (((w.alloc (.cells #[.int .i64 0, .int .i64 0, .int .i64 0] 23)).alloc (.cells #[.int .i64 0, .int .i64 0, .int .i64 0] 23)).alloc (.cells #[.int .i64 0, .int .i64 0, .int .i64 0] 23)) = wa at *
  refine wp_loop_rounds 3 ?_
  rw [rounds_succ]
  go_wp2_with fail
  refine (unhide H0 _ ((unhide HT).below (unhide CA).1)).mono ?_
  unfold sopened
  rintro e wb ⟨rfl, hb⟩
  have CB := hide (((unhide CA).then hb).then (b_alloc wb (.cells #[.int .i64 G0, .int .i64 R0, .int .i64 S0] 23)))
  have DB := hide (Bk.new wb (.int .i64 G0) (.int .i64 R0) (.int .i64 S0) 23)
  clear hb CA
  obtain ⟨b0, hbe⟩ : ∃ b, b = wb.heap.size := ⟨_, rfl⟩
  rw [← hbe] at DB
  go_wp2_with fail
  rw [← hbe]
  clear hbe
  generalize wb.alloc (.cells #[.int .i64 G0, .int .i64 R0, .int .i64 S0] 23) = wc at *
  obtain ⟨x0, x1, x2, _⟩ := (unhide DB).cells
  obtain ⟨y0, y1, y2, z0, z1, z2, zf, _, _, _, _⟩ := (unhide CB).cells
  clear DB
  go_wp2_with (go_at_call 12; refine (unhide Q0 _).mono ?_; rintro e wc ⟨rfl, rfl⟩)
  clear x0 x1 x2 y0 y1 y2 z0 z1 z2 zf
  have CA := hide ((unhide CB).set G0 R0 S0)
  clear CB
  generalize (((wc.setCell ⟨w.heap.size + 2, 0, none⟩ (.int .i64 G0)).setCell ⟨w.heap.size + 2, 1, none⟩ (.int .i64 R0)).setCell ⟨w.heap.size + 2, 2, none⟩ (.int .i64 S0)) = wa at *
  rw [rounds_succ]
  go_wp2_with fail
  refine (unhide H1 _ ((unhide HT).below (unhide CA).1)).mono ?_
  unfold sopened
  rintro e wb ⟨rfl, hb⟩
  have CB := hide (((unhide CA).then hb).then (b_alloc wb (.cells #[.int .i64 G1, .int .i64 R1, .int .i64 S1] 23)))
  have DB := hide (Bk.new wb (.int .i64 G1) (.int .i64 R1) (.int .i64 S1) 23)
  clear hb CA
  obtain ⟨b1, hbe⟩ : ∃ b, b = wb.heap.size := ⟨_, rfl⟩
  rw [← hbe] at DB
  go_wp2
  rw [← hbe]
  clear hbe
  generalize wb.alloc (.cells #[.int .i64 G1, .int .i64 R1, .int .i64 S1] 23) = wc at *
  clear DB
  obtain ⟨wa, hwa⟩ : ∃ x, x = wc := ⟨_, rfl⟩
  subst hwa
  have CA := CB
  clear CB
  rw [rounds_succ]
  obtain ⟨y0, y1, y2, z0, z1, z2, zf, yf, d0, d1, d2⟩ := (unhide CA).cells
  go_wp2
  refine bodyPost_ret (v := sopened (G0, R0, S0, 0)) ?_ rfl ⟨rfl, ?_⟩
  · rw [results_cell_tmp rfl]
    go_simp <;> rfl
  · exact (unhide CA).end _ _ _

set_option maxRecDepth 10000 in
set_option maxHeartbeats 2000000 in
theorem choose_ok_par (z o : ByteArray) (w : World) (hT : Tab w) (G0 R0 S0 G1 R1 S1 : Int) (E0 E1 : Nat) (h0 : sopenR z = (G0, R0, S0, E0)) (h1 : sopenR o = (G1, R1, S1, E1)) (hE0 : E0 = 0) (hp0 : bits .and .i64 G0 1 = 0) (hs0 : 8 ≤ S0) (hE1 : E1 = 0) (hp1 : bits .and .i64 G1 1 = 0) (hs1 : 8 ≤ S1) :
    Calls Tryd.prog 16 #[.string z, .string o] w fun e w' => e = .returned (sopened (G0, R0, S0, 0)) ∧ Below w.heap.size w w' := by
  have k0 := fun W (hW : Tab W) => sopen_any z W hW
  have k1 := fun W (hW : Tab W) => sopen_any o W hW
  rw [h0] at k0
  rw [h1] at k1
  have HT := hide hT
  clear hT h0 h1
  subst hE0
  have q0 : ∀ w, Calls Tryd.prog 12 #[.int .i64 G0] w fun e w' => e = .returned (.int .i64 0) ∧ w' = w := fun w => by have h := slot_any G0 w; rw [hp0] at h; exact h
  have Q0 := hide q0
  have s0 : (S0 == 0) = false := beq_eq_false_iff_ne.2 (by omega)
  clear q0 hp0 hs0
  subst hE1
  have q1 : ∀ w, Calls Tryd.prog 12 #[.int .i64 G1] w fun e w' => e = .returned (.int .i64 0) ∧ w' = w := fun w => by have h := slot_any G1 w; rw [hp1] at h; exact h
  have Q1 := hide q1
  have s1 : (S1 == 0) = false := beq_eq_false_iff_ne.2 (by omega)
  clear q1 hp1 hs1
  have H0 := hide k0
  have H1 := hide k1
  clear k0 k1
  have i0 := idx0 z o
  have i1 := idx1 z o
  go_enter Tryd.func16, Tryd.ntmps16
  go_wp2_with fail
  have CA := hide (Cs.new w)
  generalize (((w.alloc (.cells #[.int .i64 0, .int .i64 0, .int .i64 0] 23)).alloc (.cells #[.int .i64 0, .int .i64 0, .int .i64 0] 23)).alloc (.cells #[.int .i64 0, .int .i64 0, .int .i64 0] 23)) = wa at *
  refine wp_loop_rounds 3 ?_
  rw [rounds_succ]
  go_wp2_with fail
  refine (unhide H0 _ ((unhide HT).below (unhide CA).1)).mono ?_
  unfold sopened
  rintro e wb ⟨rfl, hb⟩
  have CB := hide (((unhide CA).then hb).then (b_alloc wb (.cells #[.int .i64 G0, .int .i64 R0, .int .i64 S0] 23)))
  have DB := hide (Bk.new wb (.int .i64 G0) (.int .i64 R0) (.int .i64 S0) 23)
  clear hb CA
  obtain ⟨b0, hbe⟩ : ∃ b, b = wb.heap.size := ⟨_, rfl⟩
  rw [← hbe] at DB
  go_wp2_with fail
  rw [← hbe]
  clear hbe
  generalize wb.alloc (.cells #[.int .i64 G0, .int .i64 R0, .int .i64 S0] 23) = wc at *
  obtain ⟨x0, x1, x2, _⟩ := (unhide DB).cells
  obtain ⟨y0, y1, y2, z0, z1, z2, zf, _, _, _, _⟩ := (unhide CB).cells
  clear DB
  go_wp2_with (go_at_call 12; refine (unhide Q0 _).mono ?_; rintro e wc ⟨rfl, rfl⟩)
  clear x0 x1 x2 y0 y1 y2 z0 z1 z2 zf
  have CA := hide ((unhide CB).set G0 R0 S0)
  clear CB
  generalize (((wc.setCell ⟨w.heap.size + 2, 0, none⟩ (.int .i64 G0)).setCell ⟨w.heap.size + 2, 1, none⟩ (.int .i64 R0)).setCell ⟨w.heap.size + 2, 2, none⟩ (.int .i64 S0)) = wa at *
  rw [rounds_succ]
  go_wp2_with fail
  refine (unhide H1 _ ((unhide HT).below (unhide CA).1)).mono ?_
  unfold sopened
  rintro e wb ⟨rfl, hb⟩
  have CB := hide (((unhide CA).then hb).then (b_alloc wb (.cells #[.int .i64 G1, .int .i64 R1, .int .i64 S1] 23)))
  have DB := hide (Bk.new wb (.int .i64 G1) (.int .i64 R1) (.int .i64 S1) 23)
  clear hb CA
  obtain ⟨b1, hbe⟩ : ∃ b, b = wb.heap.size := ⟨_, rfl⟩
  rw [← hbe] at DB
  go_wp2_with fail
  rw [← hbe]
  clear hbe
  generalize wb.alloc (.cells #[.int .i64 G1, .int .i64 R1, .int .i64 S1] 23) = wc at *
  obtain ⟨x0, x1, x2, _⟩ := (unhide DB).cells
  obtain ⟨y0, y1, y2, z0, z1, z2, zf, _, _, _, _⟩ := (unhide CB).cells
  clear DB
  go_wp2_with (go_at_call 12; refine (unhide Q1 _).mono ?_; rintro e wc ⟨rfl, rfl⟩)
  clear x0 x1 x2 y0 y1 y2 z0 z1 z2 zf
  obtain ⟨wa, hwa⟩ : ∃ x, x = wc := ⟨_, rfl⟩
  subst hwa
  have CA := CB
  clear CB
  rw [rounds_succ]
  obtain ⟨y0, y1, y2, z0, z1, z2, zf, yf, d0, d1, d2⟩ := (unhide CA).cells
  go_wp2
  refine bodyPost_ret (v := sopened (G0, R0, S0, 0)) ?_ rfl ⟨rfl, ?_⟩
  · rw [results_cell_tmp rfl]
    go_simp <;> rfl
  · exact (unhide CA).end _ _ _

set_option maxRecDepth 10000 in
set_option maxHeartbeats 2000000 in
theorem choose_ok_okgt (z o : ByteArray) (w : World) (hT : Tab w) (G0 R0 S0 G1 R1 S1 : Int) (E0 E1 : Nat) (h0 : sopenR z = (G0, R0, S0, E0)) (h1 : sopenR o = (G1, R1, S1, E1)) (hE0 : E0 = 0) (hp0 : bits .and .i64 G0 1 = 0) (hs0 : 8 ≤ S0) (hE1 : E1 = 0) (hp1 : bits .and .i64 G1 1 = 1) (hs1 : 8 ≤ S1) (hg : G0 < G1) :
    Calls Tryd.prog 16 #[.string z, .string o] w fun e w' => e = .returned (sopened (G1, R1, S1, 0)) ∧ Below w.heap.size w w' := by
  have k0 := fun W (hW : Tab W) => sopen_any z W hW
  have k1 := fun W (hW : Tab W) => sopen_any o W hW
  rw [h0] at k0
  rw [h1] at k1
  have HT := hide hT
  clear hT h0 h1
  subst hE0
  have q0 : ∀ w, Calls Tryd.prog 12 #[.int .i64 G0] w fun e w' => e = .returned (.int .i64 0) ∧ w' = w := fun w => by have h := slot_any G0 w; rw [hp0] at h; exact h
  have Q0 := hide q0
  have s0 : (S0 == 0) = false := beq_eq_false_iff_ne.2 (by omega)
  clear q0 hp0 hs0
  subst hE1
  have q1 : ∀ w, Calls Tryd.prog 12 #[.int .i64 G1] w fun e w' => e = .returned (.int .i64 1) ∧ w' = w := fun w => by have h := slot_any G1 w; rw [hp1] at h; exact h
  have Q1 := hide q1
  have s1 : (S1 == 0) = false := beq_eq_false_iff_ne.2 (by omega)
  clear q1 hp1 hs1
  have H0 := hide k0
  have H1 := hide k1
  clear k0 k1
  have i0 := idx0 z o
  have i1 := idx1 z o
  go_enter Tryd.func16, Tryd.ntmps16
  go_wp2_with fail
  have CA := hide (Cs.new w)
  generalize (((w.alloc (.cells #[.int .i64 0, .int .i64 0, .int .i64 0] 23)).alloc (.cells #[.int .i64 0, .int .i64 0, .int .i64 0] 23)).alloc (.cells #[.int .i64 0, .int .i64 0, .int .i64 0] 23)) = wa at *
  refine wp_loop_rounds 3 ?_
  rw [rounds_succ]
  go_wp2_with fail
  refine (unhide H0 _ ((unhide HT).below (unhide CA).1)).mono ?_
  unfold sopened
  rintro e wb ⟨rfl, hb⟩
  have CB := hide (((unhide CA).then hb).then (b_alloc wb (.cells #[.int .i64 G0, .int .i64 R0, .int .i64 S0] 23)))
  have DB := hide (Bk.new wb (.int .i64 G0) (.int .i64 R0) (.int .i64 S0) 23)
  clear hb CA
  obtain ⟨b0, hbe⟩ : ∃ b, b = wb.heap.size := ⟨_, rfl⟩
  rw [← hbe] at DB
  go_wp2_with fail
  rw [← hbe]
  clear hbe
  generalize wb.alloc (.cells #[.int .i64 G0, .int .i64 R0, .int .i64 S0] 23) = wc at *
  obtain ⟨x0, x1, x2, _⟩ := (unhide DB).cells
  obtain ⟨y0, y1, y2, z0, z1, z2, zf, _, _, _, _⟩ := (unhide CB).cells
  clear DB
  go_wp2_with (go_at_call 12; refine (unhide Q0 _).mono ?_; rintro e wc ⟨rfl, rfl⟩)
  clear x0 x1 x2 y0 y1 y2 z0 z1 z2 zf
  have CA := hide ((unhide CB).set G0 R0 S0)
  clear CB
  generalize (((wc.setCell ⟨w.heap.size + 2, 0, none⟩ (.int .i64 G0)).setCell ⟨w.heap.size + 2, 1, none⟩ (.int .i64 R0)).setCell ⟨w.heap.size + 2, 2, none⟩ (.int .i64 S0)) = wa at *
  rw [rounds_succ]
  go_wp2_with fail
  refine (unhide H1 _ ((unhide HT).below (unhide CA).1)).mono ?_
  unfold sopened
  rintro e wb ⟨rfl, hb⟩
  have CB := hide (((unhide CA).then hb).then (b_alloc wb (.cells #[.int .i64 G1, .int .i64 R1, .int .i64 S1] 23)))
  have DB := hide (Bk.new wb (.int .i64 G1) (.int .i64 R1) (.int .i64 S1) 23)
  clear hb CA
  obtain ⟨b1, hbe⟩ : ∃ b, b = wb.heap.size := ⟨_, rfl⟩
  rw [← hbe] at DB
  go_wp2_with fail
  rw [← hbe]
  clear hbe
  generalize wb.alloc (.cells #[.int .i64 G1, .int .i64 R1, .int .i64 S1] 23) = wc at *
  obtain ⟨x0, x1, x2, _⟩ := (unhide DB).cells
  obtain ⟨y0, y1, y2, z0, z1, z2, zf, _, _, _, _⟩ := (unhide CB).cells
  clear DB
  go_wp2_with (go_at_call 12; refine (unhide Q1 _).mono ?_; rintro e wc ⟨rfl, rfl⟩)
  clear x0 x1 x2 y0 y1 y2 z0 z1 z2 zf
  have CA := hide ((unhide CB).set G1 R1 S1)
  clear CB
  generalize (((wc.setCell ⟨w.heap.size + 2, 0, none⟩ (.int .i64 G1)).setCell ⟨w.heap.size + 2, 1, none⟩ (.int .i64 R1)).setCell ⟨w.heap.size + 2, 2, none⟩ (.int .i64 S1)) = wa at *
  rw [rounds_succ]
  obtain ⟨y0, y1, y2, z0, z1, z2, zf, yf, d0, d1, d2⟩ := (unhide CA).cells
  go_wp2
  refine bodyPost_ret (v := sopened (G1, R1, S1, 0)) ?_ rfl ⟨rfl, ?_⟩
  · rw [results_cell_tmp rfl]
    go_simp <;> rfl
  · exact (unhide CA).end _ _ _

set_option maxRecDepth 10000 in
set_option maxHeartbeats 2000000 in
theorem choose_ok_okle (z o : ByteArray) (w : World) (hT : Tab w) (G0 R0 S0 G1 R1 S1 : Int) (E0 E1 : Nat) (h0 : sopenR z = (G0, R0, S0, E0)) (h1 : sopenR o = (G1, R1, S1, E1)) (hE0 : E0 = 0) (hp0 : bits .and .i64 G0 1 = 0) (hs0 : 8 ≤ S0) (hE1 : E1 = 0) (hp1 : bits .and .i64 G1 1 = 1) (hs1 : 8 ≤ S1) (hg : G1 ≤ G0) :
    Calls Tryd.prog 16 #[.string z, .string o] w fun e w' => e = .returned (sopened (G0, R0, S0, 0)) ∧ Below w.heap.size w w' := by
  have k0 := fun W (hW : Tab W) => sopen_any z W hW
  have k1 := fun W (hW : Tab W) => sopen_any o W hW
  rw [h0] at k0
  rw [h1] at k1
  have HT := hide hT
  clear hT h0 h1
  subst hE0
  have q0 : ∀ w, Calls Tryd.prog 12 #[.int .i64 G0] w fun e w' => e = .returned (.int .i64 0) ∧ w' = w := fun w => by have h := slot_any G0 w; rw [hp0] at h; exact h
  have Q0 := hide q0
  have s0 : (S0 == 0) = false := beq_eq_false_iff_ne.2 (by omega)
  clear q0 hp0 hs0
  subst hE1
  have q1 : ∀ w, Calls Tryd.prog 12 #[.int .i64 G1] w fun e w' => e = .returned (.int .i64 1) ∧ w' = w := fun w => by have h := slot_any G1 w; rw [hp1] at h; exact h
  have Q1 := hide q1
  have s1 : (S1 == 0) = false := beq_eq_false_iff_ne.2 (by omega)
  clear q1 hp1 hs1
  have H0 := hide k0
  have H1 := hide k1
  clear k0 k1
  have i0 := idx0 z o
  have i1 := idx1 z o
  go_enter Tryd.func16, Tryd.ntmps16
  go_wp2_with fail
  have CA := hide (Cs.new w)
  generalize (((w.alloc (.cells #[.int .i64 0, .int .i64 0, .int .i64 0] 23)).alloc (.cells #[.int .i64 0, .int .i64 0, .int .i64 0] 23)).alloc (.cells #[.int .i64 0, .int .i64 0, .int .i64 0] 23)) = wa at *
  refine wp_loop_rounds 3 ?_
  rw [rounds_succ]
  go_wp2_with fail
  refine (unhide H0 _ ((unhide HT).below (unhide CA).1)).mono ?_
  unfold sopened
  rintro e wb ⟨rfl, hb⟩
  have CB := hide (((unhide CA).then hb).then (b_alloc wb (.cells #[.int .i64 G0, .int .i64 R0, .int .i64 S0] 23)))
  have DB := hide (Bk.new wb (.int .i64 G0) (.int .i64 R0) (.int .i64 S0) 23)
  clear hb CA
  obtain ⟨b0, hbe⟩ : ∃ b, b = wb.heap.size := ⟨_, rfl⟩
  rw [← hbe] at DB
  go_wp2_with fail
  rw [← hbe]
  clear hbe
  generalize wb.alloc (.cells #[.int .i64 G0, .int .i64 R0, .int .i64 S0] 23) = wc at *
  obtain ⟨x0, x1, x2, _⟩ := (unhide DB).cells
  obtain ⟨y0, y1, y2, z0, z1, z2, zf, _, _, _, _⟩ := (unhide CB).cells
  clear DB
  go_wp2_with (go_at_call 12; refine (unhide Q0 _).mono ?_; rintro e wc ⟨rfl, rfl⟩)
  clear x0 x1 x2 y0 y1 y2 z0 z1 z2 zf
  have CA := hide ((unhide CB).set G0 R0 S0)
  clear CB
  generalize (((wc.setCell ⟨w.heap.size + 2, 0, none⟩ (.int .i64 G0)).setCell ⟨w.heap.size + 2, 1, none⟩ (.int .i64 R0)).setCell ⟨w.heap.size + 2, 2, none⟩ (.int .i64 S0)) = wa at *
  rw [rounds_succ]
  go_wp2_with fail
  refine (unhide H1 _ ((unhide HT).below (unhide CA).1)).mono ?_
  unfold sopened
  rintro e wb ⟨rfl, hb⟩
  have CB := hide (((unhide CA).then hb).then (b_alloc wb (.cells #[.int .i64 G1, .int .i64 R1, .int .i64 S1] 23)))
  have DB := hide (Bk.new wb (.int .i64 G1) (.int .i64 R1) (.int .i64 S1) 23)
  clear hb CA
  obtain ⟨b1, hbe⟩ : ∃ b, b = wb.heap.size := ⟨_, rfl⟩
  rw [← hbe] at DB
  go_wp2_with fail
  rw [← hbe]
  clear hbe
  generalize wb.alloc (.cells #[.int .i64 G1, .int .i64 R1, .int .i64 S1] 23) = wc at *
  obtain ⟨x0, x1, x2, _⟩ := (unhide DB).cells
  obtain ⟨y0, y1, y2, z0, z1, z2, zf, _, _, _, _⟩ := (unhide CB).cells
  clear DB
  go_wp2_with (go_at_call 12; refine (unhide Q1 _).mono ?_; rintro e wc ⟨rfl, rfl⟩)
  clear x0 x1 x2 y0 y1 y2 z0 z1 z2 zf
  obtain ⟨wa, hwa⟩ : ∃ x, x = wc := ⟨_, rfl⟩
  subst hwa
  have CA := CB
  clear CB
  rw [rounds_succ]
  obtain ⟨y0, y1, y2, z0, z1, z2, zf, yf, d0, d1, d2⟩ := (unhide CA).cells
  go_wp2
  refine bodyPost_ret (v := sopened (G0, R0, S0, 0)) ?_ rfl ⟨rfl, ?_⟩
  · rw [results_cell_tmp rfl]
    go_simp <;> rfl
  · exact (unhide CA).end _ _ _
end Go.Proofs.YtdkgifjmahkiaaaDoor
