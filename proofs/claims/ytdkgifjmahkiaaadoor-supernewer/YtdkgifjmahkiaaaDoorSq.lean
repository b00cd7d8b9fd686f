/- What the document's Open does. -/
import Derived.Test.YtdkgifjmahkiaaaDoorSp
namespace Go.Proofs.YtdkgifjmahkiaaaDoor
open Go.ChangeShapes Go.WideShapes Go.ChangeAt Go.RowKit
open L4

/-- the answer's variable is as it began, the block and the reader stand there -/
def Ds (W w : World) (b r : Nat) (K G : Int) (P L : ByteArray) (e : Nat) : Prop := Below W.heap.size W w ∧ Bk w W.heap.size (.int .i64 0) (.int .i64 0) (.int .i64 0) 23 ∧ Bk w b (.int .i64 K) (.int .i64 G) (.string P) 33 ∧ Rm w r L e ∧ W.heap.size < b ∧ b < r
theorem Ds.told {W w w' : World} {b r e e' : Nat} {K G : Int} {P L L' : ByteArray} (h : Ds W w b r K G P L e) (t : ToldM w w' r L' e') : Ds W w' b r K G P L' e' := by
  obtain ⟨h1, h2, h3, h4, h5, h6⟩ := h
  exact ⟨h1.grown t.1 h1.size (fun x hx => by cases hx; omega), (t.1.block _ h2.lt (fun e => by cases e; omega)).trans h2, (t.1.block _ h3.lt (fun e => by cases e; omega)).trans h3, t.2, h5, h6⟩
theorem Ds.then {W w w' : World} {b r e : Nat} {K G : Int} {P L : ByteArray} (h : Ds W w b r K G P L e) (hb : Below w.heap.size w w') : Ds W w' b r K G P L e :=
  ⟨below_then h.1 hb, h.2.1.then hb, h.2.2.1.then hb, h.2.2.2.1.below hb, h.2.2.2.2⟩
theorem Ds.new {W w : World} {K G : Int} {P : ByteArray} (h1 : Below W.heap.size W w) (h2 : Bk w W.heap.size (.int .i64 0) (.int .i64 0) (.int .i64 0) 23) :
    Ds W ((w.alloc (.cells #[.int .i64 K, .int .i64 G, .string P] 33)).alloc (.cells #[.string P, .int .i64 0] 61)) w.heap.size (w.heap.size + 1) K G P P 0 := by
  refine ⟨below_then (below_then h1 (b_alloc _ _)) (b_alloc _ _), (h2.then (b_alloc _ _)).then (b_alloc _ _), (Bk.new _ _ _ _ _).then (b_alloc _ _), ?_, h2.lt, by omega⟩
  have h := Rm.new (w.alloc (.cells #[.int .i64 K, .int .i64 G, .string P] 33)) P
  have e : (w.alloc (.cells #[.int .i64 K, .int .i64 G, .string P] 33)).heap.size = w.heap.size + 1 := by simp
  rw [e] at h
  exact h
/-- THE DOCUMENT's: what End answers -/
def endR (L : ByteArray) (e : Nat) : Nat := if e ≠ 0 then e else if L.size = 0 then 0 else 22
set_option maxRecDepth 10000 in
set_option maxHeartbeats 1000000 in
theorem refEnd_any (r e : Nat) (L : ByteArray) (w : World) (hr : Rm w r L e) :
    Calls Tryd.prog 28 #[.pointer (some ⟨r, 0, none⟩)] w fun x w' => x = .returned (.int .i64 (endR L e : Int)) ∧ w' = w := by
  have h0 := hr.cell0
  have h1 := hr.cell1
  clear hr
  unfold endR
  by_cases he : e = 0
  · subst he
    rw [if_neg (by simp)]
    by_cases hz : L.size = 0
    · rw [if_pos hz]
      have hemp : L.toList.isEmpty = true := by rw [ByteArray.toList_eq, List.isEmpty_iff, List.eq_nil_iff_length_eq_zero, Array.length_toList]; exact hz
      clear hz
      go_enter Tryd.func28, Tryd.ntmps28
      go_wp2
      go_ret
      exact ⟨rfl, rfl⟩
    · rw [if_neg hz]
      have hfull := full_of (s := L) (by omega)
      clear hz
      go_enter Tryd.func28, Tryd.ntmps28
      go_wp2
      go_ret
      exact ⟨rfl, rfl⟩
  · have hne : ((e : Int) == 0) = false := beq_eq_false_iff_ne.2 (by omega)
    have hne2 : ((e : Int) != 0) = true := bne_iff_ne.2 (by omega)
    rw [if_pos he]
    clear he
    go_enter Tryd.func28, Tryd.ntmps28
    go_wp2
    go_ret
    exact ⟨rfl, rfl⟩
theorem end_of (P : ByteArray) : endR (f3 P).2.1 (f3 P).2.2 = 0 ↔ P.size = 24 := by
  constructor
  · intro h
    unfold f3 f2 f1 at h
    have e0 : P.extract 0 P.size = P := ext0 P
    by_cases h1 : P.size < 8
    · exfalso
      have a : fixedR P 0 = (0, P, 20) := by unfold fixedR; rw [if_neg (by simp), if_pos h1]
      rw [a] at h
      exact absurd h (by unfold endR fixedR; simp)
    · have a1 := fixedR_at P 0 (by omega)
      rw [e0] at a1
      rw [a1] at h
      dsimp only at h
      by_cases h2 : P.size < 16
      · exfalso
        have a : fixedR (P.extract (0 + 8) P.size) 0 = (0, P.extract (0 + 8) P.size, 20) := by unfold fixedR; rw [if_neg (by simp), if_pos (by rw [size_from]; omega)]
        rw [a] at h
        exact absurd h (by unfold endR fixedR; simp)
      · rw [fixedR_at P (0 + 8) (by omega)] at h
        dsimp only at h
        by_cases h3 : P.size < 24
        · exfalso
          have a : fixedR (P.extract (0 + 8 + 8) P.size) 0 = (0, P.extract (0 + 8 + 8) P.size, 20) := by unfold fixedR; rw [if_neg (by simp), if_pos (by rw [size_from]; omega)]
          rw [a] at h
          exact absurd h (by unfold endR; simp)
        · rw [fixedR_at P (0 + 8 + 8) (by omega)] at h
          dsimp only at h
          unfold endR at h
          rw [if_neg (by simp)] at h
          by_cases h4 : (P.extract (0 + 8 + 8 + 8) P.size).size = 0
          · rw [size_from] at h4
            omega
          · rw [if_neg h4] at h
            exact absurd h (by decide)
  · intro h
    rw [(f_of h).2.2]
    show endR (P.extract 24 24) 0 = 0
    unfold endR
    rw [if_neg (by simp), if_pos (by rw [ByteArray.size_extract]; omega)]

set_option maxRecDepth 10000 in
set_option maxHeartbeats 1000000 in
theorem rsopen_err (t : ByteArray) (K G : Int) (P : ByteArray) (E : Nat) (w : World) (ho : openR t = (K, G, P, E)) (hE : E ≠ 0) :
    Calls Tryd.prog 15 #[.string t] w fun e w' => e = .returned (sopened (0, 0, 0, E)) ∧ Below w.heap.size w w' := by
  have h1 := fun W => ropen_any t W
  rw [ho] at h1
  have H1 := hide h1
  have e1 : ((E : Int) == 0) = false := beq_eq_false_iff_ne.2 (by omega)
  have e2 : ((E : Int) != 0) = true := bne_iff_ne.2 (by omega)
  clear h1 ho hE
  go_enter Tryd.func15, Tryd.ntmps15
  go_wp2_with fail
  have HB0 := hide (b_alloc w (.cells #[.int .i64 0, .int .i64 0, .int .i64 0] 23))
  have HX0 := hide (Bk.new w (.int .i64 0) (.int .i64 0) (.int .i64 0) 23)
  generalize w.alloc (.cells #[.int .i64 0, .int .i64 0, .int .i64 0] 23) = w0 at *
  refine (unhide H1 _).mono ?_
  unfold opened
  rintro e w1 ⟨rfl, hb⟩
  have HB1 := hide (below_then (unhide HB0) (below_then hb (b_alloc w1 (.cells #[.int .i64 K, .int .i64 G, .string P] 33))))
  obtain ⟨d0, d1, d2, df⟩ := (((unhide HX0).then hb).then (b_alloc w1 (.cells #[.int .i64 K, .int .i64 G, .string P] 33))).cells
  clear hb HB0 HX0
  go_wp2
  refine bodyPost_ret (v := sopened (0, 0, 0, E)) ?_ rfl ⟨rfl, ?_⟩
  · rw [results_cell_tmp rfl]
    go_simp <;> rfl
  · exact below_set (below_set (below_set (unhide HB1) (Nat.le_refl _)) (Nat.le_refl _)) (Nat.le_refl _)

set_option maxRecDepth 10000 in
set_option maxHeartbeats 2000000 in
theorem rs_k (t : ByteArray) (K G : Int) (P : ByteArray) (w : World) (ho : openR t = (K, G, P, 0)) (hP : P.size ≤ 1007) (x y z : Nat) (m : Nat) (hx : (f1 P).1 = x) (hy : (f2 P).1 = y) (hz : (f3 P).1 = z) (hm : endR (f3 P).2.1 (f3 P).2.2 = m) (hK : ¬ K = 9) :
    Calls Tryd.prog 15 #[.string t] w fun e w' => e = .returned (sopened (0, 0, 0, 101)) ∧ Below w.heap.size w w' := by
  have h1 := fun W => ropen_any t W
  rw [ho] at h1
  have g1 := fun W w' b r (h : Ds W w' b r K G P P 0) => (refFixedR_any r 0 P w' h.2.2.2.1 (by omega)).mono (R' := fun v w2 => v = .returned (.int .u64 ((f1 P).1 : Int)) ∧ Ds W w2 b r K G P (f1 P).2.1 (f1 P).2.2) (fun v w2 ⟨hx, ht⟩ => ⟨hx, h.told ht⟩)
  have z1 : (f1 P).2.1.size ≤ 1000000 := Nat.le_trans (fixedR_size _ _) (by omega)
  have g2 := fun W w' b r (h : Ds W w' b r K G P (f1 P).2.1 (f1 P).2.2) => (refFixedR_any r _ _ w' h.2.2.2.1 z1).mono (R' := fun v w2 => v = .returned (.int .u64 ((f2 P).1 : Int)) ∧ Ds W w2 b r K G P (f2 P).2.1 (f2 P).2.2) (fun v w2 ⟨hx, ht⟩ => ⟨hx, h.told ht⟩)
  have z2 : (f2 P).2.1.size ≤ 1000000 := Nat.le_trans (fixedR_size _ _) z1
  have g3 := fun W w' b r (h : Ds W w' b r K G P (f2 P).2.1 (f2 P).2.2) => (refFixedR_any r _ _ w' h.2.2.2.1 z2).mono (R' := fun v w2 => v = .returned (.int .u64 ((f3 P).1 : Int)) ∧ Ds W w2 b r K G P (f3 P).2.1 (f3 P).2.2) (fun v w2 ⟨hx, ht⟩ => ⟨hx, h.told ht⟩)
  have g4 := fun W w' b r (h : Ds W w' b r K G P (f3 P).2.1 (f3 P).2.2) => refEnd_any r _ _ w' h.2.2.2.1
  rw [hx] at g1
  rw [hy] at g2
  rw [hz] at g3
  rw [hm] at g4
  have h0 : ∀ W w', Below W.heap.size W w' → Bk w' W.heap.size (.int .i64 0) (.int .i64 0) (.int .i64 0) 23 → Ds W ((w'.alloc (.cells #[.int .i64 K, .int .i64 G, .string P] 33)).alloc (.cells #[.string P, .int .i64 0] 61)) w'.heap.size (w'.heap.size + 1) K G P P 0 := fun W w' h1 h2 => Ds.new h1 h2
  have H0 := hide h0
  have H1 := hide h1
  have G1 := hide g1
  have G2 := hide g2
  have G3 := hide g3
  have G4 := hide g4
  clear h0 h1 g1 g2 g3 g4 z1 z2 ho hP hx hy hz hm
  generalize (f1 P).2.1 = L1 at *
  generalize (f1 P).2.2 = e1 at *
  generalize (f2 P).2.1 = L2 at *
  generalize (f2 P).2.2 = e2 at *
  generalize (f3 P).2.1 = L3 at *
  generalize (f3 P).2.2 = e3 at *
  have k0 : (K == 9) = false := beq_eq_false_iff_ne.2 hK
  have k1 : (K != 9) = true := bne_iff_ne.2 hK
  clear hK
  go_enter Tryd.func15, Tryd.ntmps15
  go_wp2_with fail
  have HB0 := hide (b_alloc w (.cells #[.int .i64 0, .int .i64 0, .int .i64 0] 23))
  have HX0 := hide (Bk.new w (.int .i64 0) (.int .i64 0) (.int .i64 0) 23)
  generalize w.alloc (.cells #[.int .i64 0, .int .i64 0, .int .i64 0] 23) = w0 at *
  refine (unhide H1 _).mono ?_
  unfold opened
  rintro e w1 ⟨rfl, hb⟩
  have D0 := hide (unhide H0 w w1 (below_then (unhide HB0) hb) ((unhide HX0).then hb))
  clear hb HB0 HX0 H0
  go_wp2_with fail
  obtain ⟨b, hbe⟩ : ∃ b, b = w1.heap.size := ⟨_, rfl⟩
  rw [← hbe] at D0 ⊢
  obtain ⟨r, hre⟩ : ∃ r, r = b + 1 := ⟨_, rfl⟩
  rw [← hre] at D0 ⊢
  generalize ((w1.alloc (.cells #[.int .i64 K, .int .i64 G, .string P] 33)).alloc (.cells #[.string P, .int .i64 0] 61)) = w2 at *
  clear hbe hre
  refine (unhide G1 w w2 b r (unhide D0)).mono ?_
  rintro e w3 ⟨rfl, hd⟩
  have D1 := hide hd
  clear hd
  go_wp2_with fail
  refine (unhide G2 w w3 b r (unhide D1)).mono ?_
  rintro e w4 ⟨rfl, hd⟩
  have D2 := hide hd
  clear hd
  go_wp2_with fail
  refine (unhide G3 w w4 b r (unhide D2)).mono ?_
  rintro e w5 ⟨rfl, hd⟩
  have D3 := hide hd
  obtain ⟨q0, q1, q2, _⟩ := hd.2.2.1.cells
  obtain ⟨d0, d1, d2, df⟩ := hd.2.1.cells
  have HB := hide hd.1
  clear hd D0 D1 D2 G1 G2 G3
  go_wp2
  refine bodyPost_ret (v := sopened (0, 0, 0, 101)) ?_ rfl ⟨rfl, ?_⟩
  · rw [results_cell_tmp rfl]
    go_simp <;> rfl
  · exact below_set (below_set (below_set (unhide HB) (Nat.le_refl _)) (Nat.le_refl _)) (Nat.le_refl _)

set_option maxRecDepth 10000 in
set_option maxHeartbeats 2000000 in
theorem rs_m (t : ByteArray) (K G : Int) (P : ByteArray) (w : World) (ho : openR t = (K, G, P, 0)) (hP : P.size ≤ 1007) (x y z : Nat) (m : Nat) (hx : (f1 P).1 = x) (hy : (f2 P).1 = y) (hz : (f3 P).1 = z) (hm : endR (f3 P).2.1 (f3 P).2.2 = m) (hK : K = 9) (hm0 : ¬ m = 0) :
    Calls Tryd.prog 15 #[.string t] w fun e w' => e = .returned (sopened (0, 0, 0, 101)) ∧ Below w.heap.size w w' := by
  have h1 := fun W => ropen_any t W
  rw [ho] at h1
  have g1 := fun W w' b r (h : Ds W w' b r K G P P 0) => (refFixedR_any r 0 P w' h.2.2.2.1 (by omega)).mono (R' := fun v w2 => v = .returned (.int .u64 ((f1 P).1 : Int)) ∧ Ds W w2 b r K G P (f1 P).2.1 (f1 P).2.2) (fun v w2 ⟨hx, ht⟩ => ⟨hx, h.told ht⟩)
  have z1 : (f1 P).2.1.size ≤ 1000000 := Nat.le_trans (fixedR_size _ _) (by omega)
  have g2 := fun W w' b r (h : Ds W w' b r K G P (f1 P).2.1 (f1 P).2.2) => (refFixedR_any r _ _ w' h.2.2.2.1 z1).mono (R' := fun v w2 => v = .returned (.int .u64 ((f2 P).1 : Int)) ∧ Ds W w2 b r K G P (f2 P).2.1 (f2 P).2.2) (fun v w2 ⟨hx, ht⟩ => ⟨hx, h.told ht⟩)
  have z2 : (f2 P).2.1.size ≤ 1000000 := Nat.le_trans (fixedR_size _ _) z1
  have g3 := fun W w' b r (h : Ds W w' b r K G P (f2 P).2.1 (f2 P).2.2) => (refFixedR_any r _ _ w' h.2.2.2.1 z2).mono (R' := fun v w2 => v = .returned (.int .u64 ((f3 P).1 : Int)) ∧ Ds W w2 b r K G P (f3 P).2.1 (f3 P).2.2) (fun v w2 ⟨hx, ht⟩ => ⟨hx, h.told ht⟩)
  have g4 := fun W w' b r (h : Ds W w' b r K G P (f3 P).2.1 (f3 P).2.2) => refEnd_any r _ _ w' h.2.2.2.1
  rw [hx] at g1
  rw [hy] at g2
  rw [hz] at g3
  rw [hm] at g4
  have h0 : ∀ W w', Below W.heap.size W w' → Bk w' W.heap.size (.int .i64 0) (.int .i64 0) (.int .i64 0) 23 → Ds W ((w'.alloc (.cells #[.int .i64 K, .int .i64 G, .string P] 33)).alloc (.cells #[.string P, .int .i64 0] 61)) w'.heap.size (w'.heap.size + 1) K G P P 0 := fun W w' h1 h2 => Ds.new h1 h2
  have H0 := hide h0
  have H1 := hide h1
  have G1 := hide g1
  have G2 := hide g2
  have G3 := hide g3
  have G4 := hide g4
  clear h0 h1 g1 g2 g3 g4 z1 z2 ho hP hx hy hz hm
  generalize (f1 P).2.1 = L1 at *
  generalize (f1 P).2.2 = e1 at *
  generalize (f2 P).2.1 = L2 at *
  generalize (f2 P).2.2 = e2 at *
  generalize (f3 P).2.1 = L3 at *
  generalize (f3 P).2.2 = e3 at *
  subst hK
  have k0 : ((m : Int) == 0) = false := beq_eq_false_iff_ne.2 (by omega)
  have k1 : ((m : Int) != 0) = true := bne_iff_ne.2 (by omega)
  clear hm0
  go_enter Tryd.func15, Tryd.ntmps15
  go_wp2_with fail
  have HB0 := hide (b_alloc w (.cells #[.int .i64 0, .int .i64 0, .int .i64 0] 23))
  have HX0 := hide (Bk.new w (.int .i64 0) (.int .i64 0) (.int .i64 0) 23)
  generalize w.alloc (.cells #[.int .i64 0, .int .i64 0, .int .i64 0] 23) = w0 at *
  refine (unhide H1 _).mono ?_
  unfold opened
  rintro e w1 ⟨rfl, hb⟩
  have D0 := hide (unhide H0 w w1 (below_then (unhide HB0) hb) ((unhide HX0).then hb))
  clear hb HB0 HX0 H0
  go_wp2_with fail
  obtain ⟨b, hbe⟩ : ∃ b, b = w1.heap.size := ⟨_, rfl⟩
  rw [← hbe] at D0 ⊢
  obtain ⟨r, hre⟩ : ∃ r, r = b + 1 := ⟨_, rfl⟩
  rw [← hre] at D0 ⊢
  generalize ((w1.alloc (.cells #[.int .i64 9, .int .i64 G, .string P] 33)).alloc (.cells #[.string P, .int .i64 0] 61)) = w2 at *
  clear hbe hre
  refine (unhide G1 w w2 b r (unhide D0)).mono ?_
  rintro e w3 ⟨rfl, hd⟩
  have D1 := hide hd
  clear hd
  go_wp2_with fail
  refine (unhide G2 w w3 b r (unhide D1)).mono ?_
  rintro e w4 ⟨rfl, hd⟩
  have D2 := hide hd
  clear hd
  go_wp2_with fail
  refine (unhide G3 w w4 b r (unhide D2)).mono ?_
  rintro e w5 ⟨rfl, hd⟩
  have D3 := hide hd
  obtain ⟨q0, q1, q2, _⟩ := hd.2.2.1.cells
  obtain ⟨d0, d1, d2, df⟩ := hd.2.1.cells
  have HB := hide hd.1
  clear hd D0 D1 D2 G1 G2 G3
  go_wp2_with (go_at_call 28; refine (unhide G4 w w5 b r (unhide D3)).mono ?_; rintro e w6 ⟨rfl, rfl⟩)
  refine bodyPost_ret (v := sopened (0, 0, 0, 101)) ?_ rfl ⟨rfl, ?_⟩
  · rw [results_cell_tmp rfl]
    go_simp <;> rfl
  · exact below_set (below_set (below_set (unhide HB) (Nat.le_refl _)) (Nat.le_refl _)) (Nat.le_refl _)

set_option maxRecDepth 10000 in
set_option maxHeartbeats 2000000 in
theorem rs_x (t : ByteArray) (K G : Int) (P : ByteArray) (w : World) (ho : openR t = (K, G, P, 0)) (hP : P.size ≤ 1007) (x y z : Nat) (m : Nat) (hx : (f1 P).1 = x) (hy : (f2 P).1 = y) (hz : (f3 P).1 = z) (hm : endR (f3 P).2.1 (f3 P).2.2 = m) (hK : K = 9) (hm0 : m = 0) (hb : 4096 < x) :
    Calls Tryd.prog 15 #[.string t] w fun e w' => e = .returned (sopened (0, 0, 0, 101)) ∧ Below w.heap.size w w' := by
  have h1 := fun W => ropen_any t W
  rw [ho] at h1
  have g1 := fun W w' b r (h : Ds W w' b r K G P P 0) => (refFixedR_any r 0 P w' h.2.2.2.1 (by omega)).mono (R' := fun v w2 => v = .returned (.int .u64 ((f1 P).1 : Int)) ∧ Ds W w2 b r K G P (f1 P).2.1 (f1 P).2.2) (fun v w2 ⟨hx, ht⟩ => ⟨hx, h.told ht⟩)
  have z1 : (f1 P).2.1.size ≤ 1000000 := Nat.le_trans (fixedR_size _ _) (by omega)
  have g2 := fun W w' b r (h : Ds W w' b r K G P (f1 P).2.1 (f1 P).2.2) => (refFixedR_any r _ _ w' h.2.2.2.1 z1).mono (R' := fun v w2 => v = .returned (.int .u64 ((f2 P).1 : Int)) ∧ Ds W w2 b r K G P (f2 P).2.1 (f2 P).2.2) (fun v w2 ⟨hx, ht⟩ => ⟨hx, h.told ht⟩)
  have z2 : (f2 P).2.1.size ≤ 1000000 := Nat.le_trans (fixedR_size _ _) z1
  have g3 := fun W w' b r (h : Ds W w' b r K G P (f2 P).2.1 (f2 P).2.2) => (refFixedR_any r _ _ w' h.2.2.2.1 z2).mono (R' := fun v w2 => v = .returned (.int .u64 ((f3 P).1 : Int)) ∧ Ds W w2 b r K G P (f3 P).2.1 (f3 P).2.2) (fun v w2 ⟨hx, ht⟩ => ⟨hx, h.told ht⟩)
  have g4 := fun W w' b r (h : Ds W w' b r K G P (f3 P).2.1 (f3 P).2.2) => refEnd_any r _ _ w' h.2.2.2.1
  rw [hx] at g1
  rw [hy] at g2
  rw [hz] at g3
  rw [hm] at g4
  have h0 : ∀ W w', Below W.heap.size W w' → Bk w' W.heap.size (.int .i64 0) (.int .i64 0) (.int .i64 0) 23 → Ds W ((w'.alloc (.cells #[.int .i64 K, .int .i64 G, .string P] 33)).alloc (.cells #[.string P, .int .i64 0] 61)) w'.heap.size (w'.heap.size + 1) K G P P 0 := fun W w' h1 h2 => Ds.new h1 h2
  have H0 := hide h0
  have H1 := hide h1
  have G1 := hide g1
  have G2 := hide g2
  have G3 := hide g3
  have G4 := hide g4
  clear h0 h1 g1 g2 g3 g4 z1 z2 ho hP hx hy hz hm
  generalize (f1 P).2.1 = L1 at *
  generalize (f1 P).2.2 = e1 at *
  generalize (f2 P).2.1 = L2 at *
  generalize (f2 P).2.2 = e2 at *
  generalize (f3 P).2.1 = L3 at *
  generalize (f3 P).2.2 = e3 at *
  subst hK hm0
  have k0 : (4096 : Int) < (x : Int) := by omega
  clear hb
  go_enter Tryd.func15, Tryd.ntmps15
  go_wp2_with fail
  have HB0 := hide (b_alloc w (.cells #[.int .i64 0, .int .i64 0, .int .i64 0] 23))
  have HX0 := hide (Bk.new w (.int .i64 0) (.int .i64 0) (.int .i64 0) 23)
  generalize w.alloc (.cells #[.int .i64 0, .int .i64 0, .int .i64 0] 23) = w0 at *
  refine (unhide H1 _).mono ?_
  unfold opened
  rintro e w1 ⟨rfl, hb⟩
  have D0 := hide (unhide H0 w w1 (below_then (unhide HB0) hb) ((unhide HX0).then hb))
  clear hb HB0 HX0 H0
  go_wp2_with fail
  obtain ⟨b, hbe⟩ : ∃ b, b = w1.heap.size := ⟨_, rfl⟩
  rw [← hbe] at D0 ⊢
  obtain ⟨r, hre⟩ : ∃ r, r = b + 1 := ⟨_, rfl⟩
  rw [← hre] at D0 ⊢
  generalize ((w1.alloc (.cells #[.int .i64 9, .int .i64 G, .string P] 33)).alloc (.cells #[.string P, .int .i64 0] 61)) = w2 at *
  clear hbe hre
  refine (unhide G1 w w2 b r (unhide D0)).mono ?_
  rintro e w3 ⟨rfl, hd⟩
  have D1 := hide hd
  clear hd
  go_wp2_with fail
  refine (unhide G2 w w3 b r (unhide D1)).mono ?_
  rintro e w4 ⟨rfl, hd⟩
  have D2 := hide hd
  clear hd
  go_wp2_with fail
  refine (unhide G3 w w4 b r (unhide D2)).mono ?_
  rintro e w5 ⟨rfl, hd⟩
  have D3 := hide hd
  obtain ⟨q0, q1, q2, _⟩ := hd.2.2.1.cells
  obtain ⟨d0, d1, d2, df⟩ := hd.2.1.cells
  have HB := hide hd.1
  clear hd D0 D1 D2 G1 G2 G3
  go_wp2_with (go_at_call 28; refine (unhide G4 w w5 b r (unhide D3)).mono ?_; rintro e w6 ⟨rfl, rfl⟩)
  refine bodyPost_ret (v := sopened (0, 0, 0, 101)) ?_ rfl ⟨rfl, ?_⟩
  · rw [results_cell_tmp rfl]
    go_simp <;> rfl
  · exact below_set (below_set (below_set (unhide HB) (Nat.le_refl _)) (Nat.le_refl _)) (Nat.le_refl _)

set_option maxRecDepth 10000 in
set_option maxHeartbeats 2000000 in
theorem rs_y (t : ByteArray) (K G : Int) (P : ByteArray) (w : World) (ho : openR t = (K, G, P, 0)) (hP : P.size ≤ 1007) (x y z : Nat) (m : Nat) (hx : (f1 P).1 = x) (hy : (f2 P).1 = y) (hz : (f3 P).1 = z) (hm : endR (f3 P).2.1 (f3 P).2.2 = m) (hK : K = 9) (hm0 : m = 0) (ha : x ≤ 4096) (hb : 4096 < y) :
    Calls Tryd.prog 15 #[.string t] w fun e w' => e = .returned (sopened (0, 0, 0, 101)) ∧ Below w.heap.size w w' := by
  have h1 := fun W => ropen_any t W
  rw [ho] at h1
  have g1 := fun W w' b r (h : Ds W w' b r K G P P 0) => (refFixedR_any r 0 P w' h.2.2.2.1 (by omega)).mono (R' := fun v w2 => v = .returned (.int .u64 ((f1 P).1 : Int)) ∧ Ds W w2 b r K G P (f1 P).2.1 (f1 P).2.2) (fun v w2 ⟨hx, ht⟩ => ⟨hx, h.told ht⟩)
  have z1 : (f1 P).2.1.size ≤ 1000000 := Nat.le_trans (fixedR_size _ _) (by omega)
  have g2 := fun W w' b r (h : Ds W w' b r K G P (f1 P).2.1 (f1 P).2.2) => (refFixedR_any r _ _ w' h.2.2.2.1 z1).mono (R' := fun v w2 => v = .returned (.int .u64 ((f2 P).1 : Int)) ∧ Ds W w2 b r K G P (f2 P).2.1 (f2 P).2.2) (fun v w2 ⟨hx, ht⟩ => ⟨hx, h.told ht⟩)
  have z2 : (f2 P).2.1.size ≤ 1000000 := Nat.le_trans (fixedR_size _ _) z1
  have g3 := fun W w' b r (h : Ds W w' b r K G P (f2 P).2.1 (f2 P).2.2) => (refFixedR_any r _ _ w' h.2.2.2.1 z2).mono (R' := fun v w2 => v = .returned (.int .u64 ((f3 P).1 : Int)) ∧ Ds W w2 b r K G P (f3 P).2.1 (f3 P).2.2) (fun v w2 ⟨hx, ht⟩ => ⟨hx, h.told ht⟩)
  have g4 := fun W w' b r (h : Ds W w' b r K G P (f3 P).2.1 (f3 P).2.2) => refEnd_any r _ _ w' h.2.2.2.1
  rw [hx] at g1
  rw [hy] at g2
  rw [hz] at g3
  rw [hm] at g4
  have h0 : ∀ W w', Below W.heap.size W w' → Bk w' W.heap.size (.int .i64 0) (.int .i64 0) (.int .i64 0) 23 → Ds W ((w'.alloc (.cells #[.int .i64 K, .int .i64 G, .string P] 33)).alloc (.cells #[.string P, .int .i64 0] 61)) w'.heap.size (w'.heap.size + 1) K G P P 0 := fun W w' h1 h2 => Ds.new h1 h2
  have H0 := hide h0
  have H1 := hide h1
  have G1 := hide g1
  have G2 := hide g2
  have G3 := hide g3
  have G4 := hide g4
  clear h0 h1 g1 g2 g3 g4 z1 z2 ho hP hx hy hz hm
  generalize (f1 P).2.1 = L1 at *
  generalize (f1 P).2.2 = e1 at *
  generalize (f2 P).2.1 = L2 at *
  generalize (f2 P).2.2 = e2 at *
  generalize (f3 P).2.1 = L3 at *
  generalize (f3 P).2.2 = e3 at *
  subst hK hm0
  have k1 : (x : Int) ≤ 4096 := by omega
  have k0 : (4096 : Int) < (y : Int) := by omega
  clear hb ha
  go_enter Tryd.func15, Tryd.ntmps15
  go_wp2_with fail
  have HB0 := hide (b_alloc w (.cells #[.int .i64 0, .int .i64 0, .int .i64 0] 23))
  have HX0 := hide (Bk.new w (.int .i64 0) (.int .i64 0) (.int .i64 0) 23)
  generalize w.alloc (.cells #[.int .i64 0, .int .i64 0, .int .i64 0] 23) = w0 at *
  refine (unhide H1 _).mono ?_
  unfold opened
  rintro e w1 ⟨rfl, hb⟩
  have D0 := hide (unhide H0 w w1 (below_then (unhide HB0) hb) ((unhide HX0).then hb))
  clear hb HB0 HX0 H0
  go_wp2_with fail
  obtain ⟨b, hbe⟩ : ∃ b, b = w1.heap.size := ⟨_, rfl⟩
  rw [← hbe] at D0 ⊢
  obtain ⟨r, hre⟩ : ∃ r, r = b + 1 := ⟨_, rfl⟩
  rw [← hre] at D0 ⊢
  generalize ((w1.alloc (.cells #[.int .i64 9, .int .i64 G, .string P] 33)).alloc (.cells #[.string P, .int .i64 0] 61)) = w2 at *
  clear hbe hre
  refine (unhide G1 w w2 b r (unhide D0)).mono ?_
  rintro e w3 ⟨rfl, hd⟩
  have D1 := hide hd
  clear hd
  go_wp2_with fail
  refine (unhide G2 w w3 b r (unhide D1)).mono ?_
  rintro e w4 ⟨rfl, hd⟩
  have D2 := hide hd
  clear hd
  go_wp2_with fail
  refine (unhide G3 w w4 b r (unhide D2)).mono ?_
  rintro e w5 ⟨rfl, hd⟩
  have D3 := hide hd
  obtain ⟨q0, q1, q2, _⟩ := hd.2.2.1.cells
  obtain ⟨d0, d1, d2, df⟩ := hd.2.1.cells
  have HB := hide hd.1
  clear hd D0 D1 D2 G1 G2 G3
  go_wp2_with (go_at_call 28; refine (unhide G4 w w5 b r (unhide D3)).mono ?_; rintro e w6 ⟨rfl, rfl⟩)
  refine bodyPost_ret (v := sopened (0, 0, 0, 101)) ?_ rfl ⟨rfl, ?_⟩
  · rw [results_cell_tmp rfl]
    go_simp <;> rfl
  · exact below_set (below_set (below_set (unhide HB) (Nat.le_refl _)) (Nat.le_refl _)) (Nat.le_refl _)

set_option maxRecDepth 10000 in
set_option maxHeartbeats 2000000 in
theorem rs_z (t : ByteArray) (K G : Int) (P : ByteArray) (w : World) (ho : openR t = (K, G, P, 0)) (hP : P.size ≤ 1007) (x y z : Nat) (m : Nat) (hx : (f1 P).1 = x) (hy : (f2 P).1 = y) (hz : (f3 P).1 = z) (hm : endR (f3 P).2.1 (f3 P).2.2 = m) (hK : K = 9) (hm0 : m = 0) (ha : x ≤ 4096) (hb : y ≤ 4096) (hc : 1152921504606846976 < z) :
    Calls Tryd.prog 15 #[.string t] w fun e w' => e = .returned (sopened (0, 0, 0, 101)) ∧ Below w.heap.size w w' := by
  have h1 := fun W => ropen_any t W
  rw [ho] at h1
  have g1 := fun W w' b r (h : Ds W w' b r K G P P 0) => (refFixedR_any r 0 P w' h.2.2.2.1 (by omega)).mono (R' := fun v w2 => v = .returned (.int .u64 ((f1 P).1 : Int)) ∧ Ds W w2 b r K G P (f1 P).2.1 (f1 P).2.2) (fun v w2 ⟨hx, ht⟩ => ⟨hx, h.told ht⟩)
  have z1 : (f1 P).2.1.size ≤ 1000000 := Nat.le_trans (fixedR_size _ _) (by omega)
  have g2 := fun W w' b r (h : Ds W w' b r K G P (f1 P).2.1 (f1 P).2.2) => (refFixedR_any r _ _ w' h.2.2.2.1 z1).mono (R' := fun v w2 => v = .returned (.int .u64 ((f2 P).1 : Int)) ∧ Ds W w2 b r K G P (f2 P).2.1 (f2 P).2.2) (fun v w2 ⟨hx, ht⟩ => ⟨hx, h.told ht⟩)
  have z2 : (f2 P).2.1.size ≤ 1000000 := Nat.le_trans (fixedR_size _ _) z1
  have g3 := fun W w' b r (h : Ds W w' b r K G P (f2 P).2.1 (f2 P).2.2) => (refFixedR_any r _ _ w' h.2.2.2.1 z2).mono (R' := fun v w2 => v = .returned (.int .u64 ((f3 P).1 : Int)) ∧ Ds W w2 b r K G P (f3 P).2.1 (f3 P).2.2) (fun v w2 ⟨hx, ht⟩ => ⟨hx, h.told ht⟩)
  have g4 := fun W w' b r (h : Ds W w' b r K G P (f3 P).2.1 (f3 P).2.2) => refEnd_any r _ _ w' h.2.2.2.1
  rw [hx] at g1
  rw [hy] at g2
  rw [hz] at g3
  rw [hm] at g4
  have h0 : ∀ W w', Below W.heap.size W w' → Bk w' W.heap.size (.int .i64 0) (.int .i64 0) (.int .i64 0) 23 → Ds W ((w'.alloc (.cells #[.int .i64 K, .int .i64 G, .string P] 33)).alloc (.cells #[.string P, .int .i64 0] 61)) w'.heap.size (w'.heap.size + 1) K G P P 0 := fun W w' h1 h2 => Ds.new h1 h2
  have H0 := hide h0
  have H1 := hide h1
  have G1 := hide g1
  have G2 := hide g2
  have G3 := hide g3
  have G4 := hide g4
  clear h0 h1 g1 g2 g3 g4 z1 z2 ho hP hx hy hz hm
  generalize (f1 P).2.1 = L1 at *
  generalize (f1 P).2.2 = e1 at *
  generalize (f2 P).2.1 = L2 at *
  generalize (f2 P).2.2 = e2 at *
  generalize (f3 P).2.1 = L3 at *
  generalize (f3 P).2.2 = e3 at *
  subst hK hm0
  have k1 : (x : Int) ≤ 4096 := by omega
  have k0 : (y : Int) ≤ 4096 := by omega
  have k2 : (1152921504606846976 : Int) < (z : Int) := by omega
  clear hb ha hc
  go_enter Tryd.func15, Tryd.ntmps15
  go_wp2_with fail
  have HB0 := hide (b_alloc w (.cells #[.int .i64 0, .int .i64 0, .int .i64 0] 23))
  have HX0 := hide (Bk.new w (.int .i64 0) (.int .i64 0) (.int .i64 0) 23)
  generalize w.alloc (.cells #[.int .i64 0, .int .i64 0, .int .i64 0] 23) = w0 at *
  refine (unhide H1 _).mono ?_
  unfold opened
  rintro e w1 ⟨rfl, hb⟩
  have D0 := hide (unhide H0 w w1 (below_then (unhide HB0) hb) ((unhide HX0).then hb))
  clear hb HB0 HX0 H0
  go_wp2_with fail
  obtain ⟨b, hbe⟩ : ∃ b, b = w1.heap.size := ⟨_, rfl⟩
  rw [← hbe] at D0 ⊢
  obtain ⟨r, hre⟩ : ∃ r, r = b + 1 := ⟨_, rfl⟩
  rw [← hre] at D0 ⊢
  generalize ((w1.alloc (.cells #[.int .i64 9, .int .i64 G, .string P] 33)).alloc (.cells #[.string P, .int .i64 0] 61)) = w2 at *
  clear hbe hre
  refine (unhide G1 w w2 b r (unhide D0)).mono ?_
  rintro e w3 ⟨rfl, hd⟩
  have D1 := hide hd
  clear hd
  go_wp2_with fail
  refine (unhide G2 w w3 b r (unhide D1)).mono ?_
  rintro e w4 ⟨rfl, hd⟩
  have D2 := hide hd
  clear hd
  go_wp2_with fail
  refine (unhide G3 w w4 b r (unhide D2)).mono ?_
  rintro e w5 ⟨rfl, hd⟩
  have D3 := hide hd
  obtain ⟨q0, q1, q2, _⟩ := hd.2.2.1.cells
  obtain ⟨d0, d1, d2, df⟩ := hd.2.1.cells
  have HB := hide hd.1
  clear hd D0 D1 D2 G1 G2 G3
  go_wp2_with (go_at_call 28; refine (unhide G4 w w5 b r (unhide D3)).mono ?_; rintro e w6 ⟨rfl, rfl⟩)
  refine bodyPost_ret (v := sopened (0, 0, 0, 101)) ?_ rfl ⟨rfl, ?_⟩
  · rw [results_cell_tmp rfl]
    go_simp <;> rfl
  · exact below_set (below_set (below_set (unhide HB) (Nat.le_refl _)) (Nat.le_refl _)) (Nat.le_refl _)

set_option maxRecDepth 10000 in
set_option maxHeartbeats 2000000 in
theorem rs_g (t : ByteArray) (K G : Int) (P : ByteArray) (w : World) (ho : openR t = (K, G, P, 0)) (hP : P.size ≤ 1007) (x y z : Nat) (m : Nat) (hx : (f1 P).1 = x) (hy : (f2 P).1 = y) (hz : (f3 P).1 = z) (hm : endR (f3 P).2.1 (f3 P).2.2 = m) (hK : K = 9) (hm0 : m = 0) (ha : x ≤ 4096) (hb : y ≤ 4096) (hc : z ≤ 1152921504606846976) (hd : ¬ (z : Int) = G) :
    Calls Tryd.prog 15 #[.string t] w fun e w' => e = .returned (sopened (0, 0, 0, 101)) ∧ Below w.heap.size w w' := by
  have h1 := fun W => ropen_any t W
  rw [ho] at h1
  have g1 := fun W w' b r (h : Ds W w' b r K G P P 0) => (refFixedR_any r 0 P w' h.2.2.2.1 (by omega)).mono (R' := fun v w2 => v = .returned (.int .u64 ((f1 P).1 : Int)) ∧ Ds W w2 b r K G P (f1 P).2.1 (f1 P).2.2) (fun v w2 ⟨hx, ht⟩ => ⟨hx, h.told ht⟩)
  have z1 : (f1 P).2.1.size ≤ 1000000 := Nat.le_trans (fixedR_size _ _) (by omega)
  have g2 := fun W w' b r (h : Ds W w' b r K G P (f1 P).2.1 (f1 P).2.2) => (refFixedR_any r _ _ w' h.2.2.2.1 z1).mono (R' := fun v w2 => v = .returned (.int .u64 ((f2 P).1 : Int)) ∧ Ds W w2 b r K G P (f2 P).2.1 (f2 P).2.2) (fun v w2 ⟨hx, ht⟩ => ⟨hx, h.told ht⟩)
  have z2 : (f2 P).2.1.size ≤ 1000000 := Nat.le_trans (fixedR_size _ _) z1
  have g3 := fun W w' b r (h : Ds W w' b r K G P (f2 P).2.1 (f2 P).2.2) => (refFixedR_any r _ _ w' h.2.2.2.1 z2).mono (R' := fun v w2 => v = .returned (.int .u64 ((f3 P).1 : Int)) ∧ Ds W w2 b r K G P (f3 P).2.1 (f3 P).2.2) (fun v w2 ⟨hx, ht⟩ => ⟨hx, h.told ht⟩)
  have g4 := fun W w' b r (h : Ds W w' b r K G P (f3 P).2.1 (f3 P).2.2) => refEnd_any r _ _ w' h.2.2.2.1
  rw [hx] at g1
  rw [hy] at g2
  rw [hz] at g3
  rw [hm] at g4
  have h0 : ∀ W w', Below W.heap.size W w' → Bk w' W.heap.size (.int .i64 0) (.int .i64 0) (.int .i64 0) 23 → Ds W ((w'.alloc (.cells #[.int .i64 K, .int .i64 G, .string P] 33)).alloc (.cells #[.string P, .int .i64 0] 61)) w'.heap.size (w'.heap.size + 1) K G P P 0 := fun W w' h1 h2 => Ds.new h1 h2
  have H0 := hide h0
  have H1 := hide h1
  have G1 := hide g1
  have G2 := hide g2
  have G3 := hide g3
  have G4 := hide g4
  clear h0 h1 g1 g2 g3 g4 z1 z2 ho hP hx hy hz hm
  generalize (f1 P).2.1 = L1 at *
  generalize (f1 P).2.2 = e1 at *
  generalize (f2 P).2.1 = L2 at *
  generalize (f2 P).2.2 = e2 at *
  generalize (f3 P).2.1 = L3 at *
  generalize (f3 P).2.2 = e3 at *
  subst hK hm0
  have k1 : (x : Int) ≤ 4096 := by omega
  have k0 : (y : Int) ≤ 4096 := by omega
  have k2 : (z : Int) ≤ (1152921504606846976 : Int) := by omega
  have vz : wrap64 (z : Int) = (z : Int) := by unfold wrap64; omega
  have k3 : ((z : Int) == G) = false := beq_eq_false_iff_ne.2 hd
  have k4 : ((z : Int) != G) = true := bne_iff_ne.2 hd
  clear hb ha hc hd
  go_enter Tryd.func15, Tryd.ntmps15
  go_wp2_with fail
  have HB0 := hide (b_alloc w (.cells #[.int .i64 0, .int .i64 0, .int .i64 0] 23))
  have HX0 := hide (Bk.new w (.int .i64 0) (.int .i64 0) (.int .i64 0) 23)
  generalize w.alloc (.cells #[.int .i64 0, .int .i64 0, .int .i64 0] 23) = w0 at *
  refine (unhide H1 _).mono ?_
  unfold opened
  rintro e w1 ⟨rfl, hb⟩
  have D0 := hide (unhide H0 w w1 (below_then (unhide HB0) hb) ((unhide HX0).then hb))
  clear hb HB0 HX0 H0
  go_wp2_with fail
  obtain ⟨b, hbe⟩ : ∃ b, b = w1.heap.size := ⟨_, rfl⟩
  rw [← hbe] at D0 ⊢
  obtain ⟨r, hre⟩ : ∃ r, r = b + 1 := ⟨_, rfl⟩
  rw [← hre] at D0 ⊢
  generalize ((w1.alloc (.cells #[.int .i64 9, .int .i64 G, .string P] 33)).alloc (.cells #[.string P, .int .i64 0] 61)) = w2 at *
  clear hbe hre
  refine (unhide G1 w w2 b r (unhide D0)).mono ?_
  rintro e w3 ⟨rfl, hd⟩
  have D1 := hide hd
  clear hd
  go_wp2_with fail
  refine (unhide G2 w w3 b r (unhide D1)).mono ?_
  rintro e w4 ⟨rfl, hd⟩
  have D2 := hide hd
  clear hd
  go_wp2_with fail
  refine (unhide G3 w w4 b r (unhide D2)).mono ?_
  rintro e w5 ⟨rfl, hd⟩
  have D3 := hide hd
  obtain ⟨q0, q1, q2, _⟩ := hd.2.2.1.cells
  obtain ⟨d0, d1, d2, df⟩ := hd.2.1.cells
  have HB := hide hd.1
  clear hd D0 D1 D2 G1 G2 G3
  go_wp2_with (go_at_call 28; refine (unhide G4 w w5 b r (unhide D3)).mono ?_; rintro e w6 ⟨rfl, rfl⟩)
  refine bodyPost_ret (v := sopened (0, 0, 0, 101)) ?_ rfl ⟨rfl, ?_⟩
  · rw [results_cell_tmp rfl]
    go_simp <;> rfl
  · exact below_set (below_set (below_set (unhide HB) (Nat.le_refl _)) (Nat.le_refl _)) (Nat.le_refl _)

set_option maxRecDepth 10000 in
set_option maxHeartbeats 2000000 in
theorem rs_no (t : ByteArray) (K G : Int) (P : ByteArray) (w : World) (ho : openR t = (K, G, P, 0)) (hP : P.size ≤ 1007) (x y z : Nat) (m : Nat) (hx : (f1 P).1 = x) (hy : (f2 P).1 = y) (hz : (f3 P).1 = z) (hm : endR (f3 P).2.1 (f3 P).2.2 = m) (hK : K = 9) (hm0 : m = 0) (ha : x ≤ 4096) (hb : y ≤ 4096) (hc : z ≤ 1152921504606846976) (hd : (z : Int) = G) (hmb : ¬ MayB (z : Int) (x : Int) (y : Int)) :
    Calls Tryd.prog 15 #[.string t] w fun e w' => e = .returned (sopened (0, 0, 0, 101)) ∧ Below w.heap.size w w' := by
  have h1 := fun W => ropen_any t W
  rw [ho] at h1
  have g1 := fun W w' b r (h : Ds W w' b r K G P P 0) => (refFixedR_any r 0 P w' h.2.2.2.1 (by omega)).mono (R' := fun v w2 => v = .returned (.int .u64 ((f1 P).1 : Int)) ∧ Ds W w2 b r K G P (f1 P).2.1 (f1 P).2.2) (fun v w2 ⟨hx, ht⟩ => ⟨hx, h.told ht⟩)
  have z1 : (f1 P).2.1.size ≤ 1000000 := Nat.le_trans (fixedR_size _ _) (by omega)
  have g2 := fun W w' b r (h : Ds W w' b r K G P (f1 P).2.1 (f1 P).2.2) => (refFixedR_any r _ _ w' h.2.2.2.1 z1).mono (R' := fun v w2 => v = .returned (.int .u64 ((f2 P).1 : Int)) ∧ Ds W w2 b r K G P (f2 P).2.1 (f2 P).2.2) (fun v w2 ⟨hx, ht⟩ => ⟨hx, h.told ht⟩)
  have z2 : (f2 P).2.1.size ≤ 1000000 := Nat.le_trans (fixedR_size _ _) z1
  have g3 := fun W w' b r (h : Ds W w' b r K G P (f2 P).2.1 (f2 P).2.2) => (refFixedR_any r _ _ w' h.2.2.2.1 z2).mono (R' := fun v w2 => v = .returned (.int .u64 ((f3 P).1 : Int)) ∧ Ds W w2 b r K G P (f3 P).2.1 (f3 P).2.2) (fun v w2 ⟨hx, ht⟩ => ⟨hx, h.told ht⟩)
  have g4 := fun W w' b r (h : Ds W w' b r K G P (f3 P).2.1 (f3 P).2.2) => refEnd_any r _ _ w' h.2.2.2.1
  rw [hx] at g1
  rw [hy] at g2
  rw [hz] at g3
  rw [hm] at g4
  have h0 : ∀ W w', Below W.heap.size W w' → Bk w' W.heap.size (.int .i64 0) (.int .i64 0) (.int .i64 0) 23 → Ds W ((w'.alloc (.cells #[.int .i64 K, .int .i64 G, .string P] 33)).alloc (.cells #[.string P, .int .i64 0] 61)) w'.heap.size (w'.heap.size + 1) K G P P 0 := fun W w' h1 h2 => Ds.new h1 h2
  have H0 := hide h0
  have H1 := hide h1
  have G1 := hide g1
  have G2 := hide g2
  have G3 := hide g3
  have G4 := hide g4
  clear h0 h1 g1 g2 g3 g4 z1 z2 ho hP hx hy hz hm
  generalize (f1 P).2.1 = L1 at *
  generalize (f1 P).2.2 = e1 at *
  generalize (f2 P).2.1 = L2 at *
  generalize (f2 P).2.2 = e2 at *
  generalize (f3 P).2.1 = L3 at *
  generalize (f3 P).2.2 = e3 at *
  subst hK hm0
  have k1 : (x : Int) ≤ 4096 := by omega
  have k0 : (y : Int) ≤ 4096 := by omega
  have k2 : (z : Int) ≤ (1152921504606846976 : Int) := by omega
  have vx : wrap64 (x : Int) = (x : Int) := by unfold wrap64; omega
  have vy : wrap64 (y : Int) = (y : Int) := by unfold wrap64; omega
  have vz : wrap64 (z : Int) = (z : Int) := by unfold wrap64; omega
  subst hd
  have h5 := fun W => right_any (z : Int) (x : Int) (y : Int) W
  rw [decide_eq_false hmb] at h5
  have H5 := hide h5
  clear hb ha hc h5 hmb
  go_enter Tryd.func15, Tryd.ntmps15
  go_wp2_with fail
  have HB0 := hide (b_alloc w (.cells #[.int .i64 0, .int .i64 0, .int .i64 0] 23))
  have HX0 := hide (Bk.new w (.int .i64 0) (.int .i64 0) (.int .i64 0) 23)
  generalize w.alloc (.cells #[.int .i64 0, .int .i64 0, .int .i64 0] 23) = w0 at *
  refine (unhide H1 _).mono ?_
  unfold opened
  rintro e w1 ⟨rfl, hb⟩
  have D0 := hide (unhide H0 w w1 (below_then (unhide HB0) hb) ((unhide HX0).then hb))
  clear hb HB0 HX0 H0
  go_wp2_with fail
  obtain ⟨b, hbe⟩ : ∃ b, b = w1.heap.size := ⟨_, rfl⟩
  rw [← hbe] at D0 ⊢
  obtain ⟨r, hre⟩ : ∃ r, r = b + 1 := ⟨_, rfl⟩
  rw [← hre] at D0 ⊢
  generalize ((w1.alloc (.cells #[.int .i64 9, .int .i64 (z : Int), .string P] 33)).alloc (.cells #[.string P, .int .i64 0] 61)) = w2 at *
  clear hbe hre
  refine (unhide G1 w w2 b r (unhide D0)).mono ?_
  rintro e w3 ⟨rfl, hd⟩
  have D1 := hide hd
  clear hd
  go_wp2_with fail
  refine (unhide G2 w w3 b r (unhide D1)).mono ?_
  rintro e w4 ⟨rfl, hd⟩
  have D2 := hide hd
  clear hd
  go_wp2_with fail
  refine (unhide G3 w w4 b r (unhide D2)).mono ?_
  rintro e w5 ⟨rfl, hd⟩
  have D3 := hide hd
  obtain ⟨q0, q1, q2, _⟩ := hd.2.2.1.cells
  obtain ⟨d0, d1, d2, df⟩ := hd.2.1.cells
  have HB := hide hd.1
  clear hd D0 D1 D2 G1 G2 G3
  go_wp2_with (go_at_call 28; refine (unhide G4 w w5 b r (unhide D3)).mono ?_; rintro e w5 ⟨rfl, rfl⟩)
  have D4 := hide ((unhide D3).then (b_alloc w5 (.cells #[.int .i64 (z : Int), .int .i64 (x : Int), .int .i64 (y : Int)] 23)))
  have Z4 := hide (Bk.new w5 (.int .i64 (z : Int)) (.int .i64 (x : Int)) (.int .i64 (y : Int)) 23)
  obtain ⟨c, hce⟩ : ∃ c, c = w5.heap.size := ⟨_, rfl⟩
  rw [← hce] at Z4 ⊢
  clear q0 q1 q2 d0 d1 d2 df HB D3 hce
  generalize w5.alloc (.cells #[.int .i64 (z : Int), .int .i64 (x : Int), .int .i64 (y : Int)] 23) = w6 at *
  refine (unhide H5 _).mono ?_
  rintro e w7 ⟨rfl, hb⟩
  have D5 := (unhide D4).then hb
  obtain ⟨d0, d1, d2, df⟩ := D5.2.1.cells
  obtain ⟨c0, c1, c2, _⟩ := ((unhide Z4).then hb).cells
  have HB := hide D5.1
  clear D5 hb D4 Z4
  go_wp2
  refine bodyPost_ret (v := sopened (0, 0, 0, 101)) ?_ rfl ⟨rfl, ?_⟩
  · rw [results_cell_tmp rfl]
    go_simp <;> rfl
  · exact below_set (below_set (below_set (unhide HB) (Nat.le_refl _)) (Nat.le_refl _)) (Nat.le_refl _)

set_option maxRecDepth 10000 in
set_option maxHeartbeats 2000000 in
theorem rs_yes (t : ByteArray) (K G : Int) (P : ByteArray) (w : World) (ho : openR t = (K, G, P, 0)) (hP : P.size ≤ 1007) (x y z : Nat) (m : Nat) (hx : (f1 P).1 = x) (hy : (f2 P).1 = y) (hz : (f3 P).1 = z) (hm : endR (f3 P).2.1 (f3 P).2.2 = m) (hK : K = 9) (hm0 : m = 0) (ha : x ≤ 4096) (hb : y ≤ 4096) (hc : z ≤ 1152921504606846976) (hd : (z : Int) = G) (hmb : MayB (z : Int) (x : Int) (y : Int)) :
    Calls Tryd.prog 15 #[.string t] w fun e w' => e = .returned (sopened ((z : Int), (x : Int), (y : Int), 0)) ∧ Below w.heap.size w w' := by
  have h1 := fun W => ropen_any t W
  rw [ho] at h1
  have g1 := fun W w' b r (h : Ds W w' b r K G P P 0) => (refFixedR_any r 0 P w' h.2.2.2.1 (by omega)).mono (R' := fun v w2 => v = .returned (.int .u64 ((f1 P).1 : Int)) ∧ Ds W w2 b r K G P (f1 P).2.1 (f1 P).2.2) (fun v w2 ⟨hx, ht⟩ => ⟨hx, h.told ht⟩)
  have z1 : (f1 P).2.1.size ≤ 1000000 := Nat.le_trans (fixedR_size _ _) (by omega)
  have g2 := fun W w' b r (h : Ds W w' b r K G P (f1 P).2.1 (f1 P).2.2) => (refFixedR_any r _ _ w' h.2.2.2.1 z1).mono (R' := fun v w2 => v = .returned (.int .u64 ((f2 P).1 : Int)) ∧ Ds W w2 b r K G P (f2 P).2.1 (f2 P).2.2) (fun v w2 ⟨hx, ht⟩ => ⟨hx, h.told ht⟩)
  have z2 : (f2 P).2.1.size ≤ 1000000 := Nat.le_trans (fixedR_size _ _) z1
  have g3 := fun W w' b r (h : Ds W w' b r K G P (f2 P).2.1 (f2 P).2.2) => (refFixedR_any r _ _ w' h.2.2.2.1 z2).mono (R' := fun v w2 => v = .returned (.int .u64 ((f3 P).1 : Int)) ∧ Ds W w2 b r K G P (f3 P).2.1 (f3 P).2.2) (fun v w2 ⟨hx, ht⟩ => ⟨hx, h.told ht⟩)
  have g4 := fun W w' b r (h : Ds W w' b r K G P (f3 P).2.1 (f3 P).2.2) => refEnd_any r _ _ w' h.2.2.2.1
  rw [hx] at g1
  rw [hy] at g2
  rw [hz] at g3
  rw [hm] at g4
  have h0 : ∀ W w', Below W.heap.size W w' → Bk w' W.heap.size (.int .i64 0) (.int .i64 0) (.int .i64 0) 23 → Ds W ((w'.alloc (.cells #[.int .i64 K, .int .i64 G, .string P] 33)).alloc (.cells #[.string P, .int .i64 0] 61)) w'.heap.size (w'.heap.size + 1) K G P P 0 := fun W w' h1 h2 => Ds.new h1 h2
  have H0 := hide h0
  have H1 := hide h1
  have G1 := hide g1
  have G2 := hide g2
  have G3 := hide g3
  have G4 := hide g4
  clear h0 h1 g1 g2 g3 g4 z1 z2 ho hP hx hy hz hm
  generalize (f1 P).2.1 = L1 at *
  generalize (f1 P).2.2 = e1 at *
  generalize (f2 P).2.1 = L2 at *
  generalize (f2 P).2.2 = e2 at *
  generalize (f3 P).2.1 = L3 at *
  generalize (f3 P).2.2 = e3 at *
  subst hK hm0
  have k1 : (x : Int) ≤ 4096 := by omega
  have k0 : (y : Int) ≤ 4096 := by omega
  have k2 : (z : Int) ≤ (1152921504606846976 : Int) := by omega
  have vx : wrap64 (x : Int) = (x : Int) := by unfold wrap64; omega
  have vy : wrap64 (y : Int) = (y : Int) := by unfold wrap64; omega
  have vz : wrap64 (z : Int) = (z : Int) := by unfold wrap64; omega
  subst hd
  have h5 := fun W => right_any (z : Int) (x : Int) (y : Int) W
  rw [decide_eq_true hmb] at h5
  have H5 := hide h5
  clear hb ha hc h5 hmb
  go_enter Tryd.func15, Tryd.ntmps15
  go_wp2_with fail
  have HB0 := hide (b_alloc w (.cells #[.int .i64 0, .int .i64 0, .int .i64 0] 23))
  have HX0 := hide (Bk.new w (.int .i64 0) (.int .i64 0) (.int .i64 0) 23)
  generalize w.alloc (.cells #[.int .i64 0, .int .i64 0, .int .i64 0] 23) = w0 at *
  refine (unhide H1 _).mono ?_
  unfold opened
  rintro e w1 ⟨rfl, hb⟩
  have D0 := hide (unhide H0 w w1 (below_then (unhide HB0) hb) ((unhide HX0).then hb))
  clear hb HB0 HX0 H0
  go_wp2_with fail
  obtain ⟨b, hbe⟩ : ∃ b, b = w1.heap.size := ⟨_, rfl⟩
  rw [← hbe] at D0 ⊢
  obtain ⟨r, hre⟩ : ∃ r, r = b + 1 := ⟨_, rfl⟩
  rw [← hre] at D0 ⊢
  generalize ((w1.alloc (.cells #[.int .i64 9, .int .i64 (z : Int), .string P] 33)).alloc (.cells #[.string P, .int .i64 0] 61)) = w2 at *
  clear hbe hre
  refine (unhide G1 w w2 b r (unhide D0)).mono ?_
  rintro e w3 ⟨rfl, hd⟩
  have D1 := hide hd
  clear hd
  go_wp2_with fail
  refine (unhide G2 w w3 b r (unhide D1)).mono ?_
  rintro e w4 ⟨rfl, hd⟩
  have D2 := hide hd
  clear hd
  go_wp2_with fail
  refine (unhide G3 w w4 b r (unhide D2)).mono ?_
  rintro e w5 ⟨rfl, hd⟩
  have D3 := hide hd
  obtain ⟨q0, q1, q2, _⟩ := hd.2.2.1.cells
  obtain ⟨d0, d1, d2, df⟩ := hd.2.1.cells
  have HB := hide hd.1
  clear hd D0 D1 D2 G1 G2 G3
  go_wp2_with (go_at_call 28; refine (unhide G4 w w5 b r (unhide D3)).mono ?_; rintro e w5 ⟨rfl, rfl⟩)
  have D4 := hide ((unhide D3).then (b_alloc w5 (.cells #[.int .i64 (z : Int), .int .i64 (x : Int), .int .i64 (y : Int)] 23)))
  have Z4 := hide (Bk.new w5 (.int .i64 (z : Int)) (.int .i64 (x : Int)) (.int .i64 (y : Int)) 23)
  obtain ⟨c, hce⟩ : ∃ c, c = w5.heap.size := ⟨_, rfl⟩
  rw [← hce] at Z4 ⊢
  clear q0 q1 q2 d0 d1 d2 df HB D3 hce
  generalize w5.alloc (.cells #[.int .i64 (z : Int), .int .i64 (x : Int), .int .i64 (y : Int)] 23) = w6 at *
  refine (unhide H5 _).mono ?_
  rintro e w7 ⟨rfl, hb⟩
  have D5 := (unhide D4).then hb
  obtain ⟨d0, d1, d2, df⟩ := D5.2.1.cells
  obtain ⟨c0, c1, c2, _⟩ := ((unhide Z4).then hb).cells
  have HB := hide D5.1
  clear D5 hb D4 Z4
  go_wp2
  refine bodyPost_ret (v := sopened ((z : Int), (x : Int), (y : Int), 0)) ?_ rfl ⟨rfl, ?_⟩
  · rw [results_cell_tmp rfl]
    go_simp <;> rfl
  · exact below_set (below_set (below_set (unhide HB) (Nat.le_refl _)) (Nat.le_refl _)) (Nat.le_refl _)

theorem rsopen_any (t : ByteArray) (w : World) :
    Calls Tryd.prog 15 #[.string t] w fun e w' => e = .returned (sopened (sopenR t)) ∧ Below w.heap.size w w' := by
  have hp := openR_pay (t := t)
  unfold sopenR
  generalize ho : openR t = T at *
  obtain ⟨K, G, P, E⟩ := T
  show Calls Tryd.prog 15 #[.string t] w fun e w' => e = .returned (sopened (if E ≠ 0 then (0, 0, 0, E) else sblkR K G P)) ∧ Below w.heap.size w w'
  by_cases hE : E ≠ 0
  · rw [if_pos hE]
    exact rsopen_err t K G P E w ho hE
  · obtain rfl : E = 0 := by omega
    rw [if_neg hE]
    have hp' : P.size ≤ 1007 := hp rfl
    by_cases hK : K = 9
    · by_cases hm : endR (f3 P).2.1 (f3 P).2.2 = 0
      · have h24 := (end_of P).1 hm
        obtain ⟨a1, a2, a3⟩ := f_of h24
        have b1 : (f1 P).1 = n1 P := by rw [a1]
        have b2 : (f2 P).1 = n2 P := by rw [a2]
        have b3 : (f3 P).1 = n3 P := by rw [a3]
        by_cases hx : 4096 < n1 P
        · rw [sblkR_no (fun h => by obtain ⟨_, _, _, _, ⟨_, _⟩, _⟩ := h; omega)]
          exact rs_x t K G P w ho hp' _ _ _ _ b1 b2 b3 rfl hK hm hx
        · by_cases hy : 4096 < n2 P
          · rw [sblkR_no (fun h => by obtain ⟨_, _, _, _, ⟨_, _⟩, _⟩ := h; omega)]
            exact rs_y t K G P w ho hp' _ _ _ _ b1 b2 b3 rfl hK hm (by omega) hy
          · by_cases hz : 1152921504606846976 < n3 P
            · rw [sblkR_no (fun h => by obtain ⟨_, _, _, ⟨_, _⟩, ⟨_, _⟩, _⟩ := h; omega)]
              exact rs_z t K G P w ho hp' _ _ _ _ b1 b2 b3 rfl hK hm (by omega) (by omega) hz
            · by_cases hG : ((n3 P : Nat) : Int) = G
              · by_cases hb : MayB ((n3 P : Nat) : Int) (n1 P : Nat) (n2 P : Nat)
                · rw [sblkR_ok ⟨hK, h24, hG, by rw [← hG]; exact hb⟩, ← hG]
                  exact rs_yes t K G P w ho hp' _ _ _ _ b1 b2 b3 rfl hK hm (by omega) (by omega) (by omega) hG hb
                · rw [sblkR_no (fun h => by obtain ⟨_, _, _, h⟩ := h; rw [← hG] at h; exact hb h)]
                  exact rs_no t K G P w ho hp' _ _ _ _ b1 b2 b3 rfl hK hm (by omega) (by omega) (by omega) hG hb
              · rw [sblkR_no (fun h => hG h.2.2.1)]
                exact rs_g t K G P w ho hp' _ _ _ _ b1 b2 b3 rfl hK hm (by omega) (by omega) (by omega) hG
      · rw [sblkR_no (fun h => hm ((end_of P).2 h.2.1))]
        exact rs_m t K G P w ho hp' _ _ _ _ rfl rfl rfl rfl hK hm
    · rw [sblkR_no (fun h => hK h.1)]
      exact rs_k t K G P w ho hp' _ _ _ _ rfl rfl rfl rfl hK
end Go.Proofs.YtdkgifjmahkiaaaDoor
