/- The walk of the law BlockOpens. -/
import Derived.Test.YtlccdefpgkmmnaaDoorAwake
import Derived.Test.YtlccdefpgkmmnaaDoorRefopen
namespace Go.Proofs.YtlccdefpgkmmnaaDoor
open Go.ChangeShapes Go.WideShapes Go.ChangeAt Go.RowKit

/-- a variable that holds a block -/
def Cel (w : World) (b : Nat) (K G : Int) (P : ByteArray) : Prop := w.heap[b]? = some (.cells #[.int .i64 K, .int .i64 G, .string P] 23 (0, 0))
theorem Cel.lt {w : World} {b : Nat} {K G : Int} {P : ByteArray} (h : Cel w b K G P) : b < w.heap.size := (Array.getElem?_eq_some_iff.1 h).1
theorem Cel.below {w w' : World} {b : Nat} {K G : Int} {P : ByteArray} (h : Cel w b K G P) (hb : Below w.heap.size w w') : Cel w' b K G P := (hb.block _ h.lt).trans h
theorem Cel.cells {w : World} {b : Nat} {K G : Int} {P : ByteArray} (h : Cel w b K G P) : w.cell? ⟨b, 0, none⟩ = some (.int .i64 K) ∧ w.cell? ⟨b, 1, none⟩ = some (.int .i64 G) ∧ w.cell? ⟨b, 2, none⟩ = some (.string P) ∧ ∀ i, w.frozen? ⟨b, i, none⟩ = false := by
  unfold Cel at h
  refine ⟨?_, ?_, ?_, fun i => ?_⟩
  · simp [World.cell?, h]
  · simp [World.cell?, h]
  · simp [World.cell?, h]
  · simp [World.frozen?, h]
theorem Cel.all {w : World} {b : Nat} {K G : Int} {P : ByteArray} (h : Cel w b K G P) : (∀ o, (w.alloc o).cell? ⟨b, 0, none⟩ = some (.int .i64 K)) ∧ (∀ o, (w.alloc o).cell? ⟨b, 1, none⟩ = some (.int .i64 G)) ∧ (∀ o, (w.alloc o).cell? ⟨b, 2, none⟩ = some (.string P)) ∧ b < w.heap.size := by
  have := fun o => (h.below ((Below.refl _ _).alloc (Nat.le_refl _) o)).cells
  exact ⟨fun o => (this o).1, fun o => (this o).2.1, fun o => (this o).2.2.1, h.lt⟩
theorem Cel.new (w : World) (K G : Int) (P : ByteArray) : Cel (w.alloc (.cells #[.int .i64 K, .int .i64 G, .string P] 23)) w.heap.size K G P := heap_alloc_new w _
def set3 (w : World) (b : Nat) (K G : Int) (P : ByteArray) : World := ((w.setCell ⟨b, 0, none⟩ (.int .i64 K)).setCell ⟨b, 1, none⟩ (.int .i64 G)).setCell ⟨b, 2, none⟩ (.string P)
theorem Cel.set {w : World} {b : Nat} {K G : Int} {P : ByteArray} (h : Cel w b K G P) (K' G' : Int) (P' : ByteArray) : Cel (set3 w b K' G' P') b K' G' P' := by
  unfold Cel at *
  simp [set3, World.setCell, Array.getElem?_modify, h]
theorem Cel.other {w : World} {b a : Nat} {K G : Int} {P : ByteArray} (h : Cel w b K G P) (hne : b ≠ a) (K' G' : Int) (P' : ByteArray) : Cel (set3 w a K' G' P') b K G P := by
  unfold Cel at *
  have hne' : a ≠ b := fun e => hne e.symm
  simp [set3, World.setCell, Array.getElem?_modify, h, hne']
/-- one variable, and two -/
def One (W w : World) (a : Nat) (K G : Int) (P : ByteArray) : Prop := Below W.heap.size W w ∧ Cel w a K G P ∧ W.heap.size ≤ a
theorem Cel.one {W w : World} (h : Below W.heap.size W w) (K G : Int) (P : ByteArray) : One W (w.alloc (.cells #[.int .i64 K, .int .i64 G, .string P] 23)) w.heap.size K G P :=
  ⟨h.alloc h.size _, Cel.new w K G P, h.size⟩
def Two (W w : World) (a b : Nat) (K G : Int) (P : ByteArray) (K' G' : Int) (P' : ByteArray) : Prop := Below W.heap.size W w ∧ Cel w a K G P ∧ Cel w b K' G' P' ∧ a ≠ b ∧ W.heap.size ≤ a ∧ W.heap.size ≤ b
theorem Cel.two {W w w' : World} {a : Nat} {K1 G1 : Int} {P1 : ByteArray} (h : One W w a K1 G1 P1) (hb : Below w.heap.size w w') (K G : Int) (P : ByteArray) : Two W (w'.alloc (.cells #[.int .i64 K, .int .i64 G, .string P] 23)) a w'.heap.size K1 G1 P1 K G P := by
  obtain ⟨h1, h2, h3⟩ := h
  have h4 := below_then h1 hb
  have h5 := h2.below hb
  exact ⟨h4.alloc h4.size _, h5.below ((Below.refl _ _).alloc (Nat.le_refl _) _), Cel.new w' K G P, Nat.ne_of_lt h5.lt, h3, h4.size⟩
theorem Two.then {W w w' : World} {a b : Nat} {K G K' G' : Int} {P P' : ByteArray} (h : Two W w a b K G P K' G' P') (hb : Below w.heap.size w w') : Two W w' a b K G P K' G' P' :=
  ⟨below_then h.1 hb, h.2.1.below hb, h.2.2.1.below hb, h.2.2.2⟩
theorem below_set3 {W w : World} {b : Nat} (h : Below W.heap.size W w) (hb : W.heap.size ≤ b) (K G : Int) (P : ByteArray) : Below W.heap.size W (set3 w b K G P) :=
  below_set (below_set (below_set h hb) hb) hb
theorem Two.setA {W w : World} {a b : Nat} {K G K' G' : Int} {P P' : ByteArray} (h : Two W w a b K G P K' G' P') (X Y : Int) (Z : ByteArray) : Two W (((w.setCell ⟨a, 0, none⟩ (.int .i64 X)).setCell ⟨a, 1, none⟩ (.int .i64 Y)).setCell ⟨a, 2, none⟩ (.string Z)) a b X Y Z K' G' P' := by
  obtain ⟨h1, h2, h3, h4, h5, h6⟩ := h
  exact ⟨below_set3 h1 h5 X Y Z, h2.set X Y Z, h3.other (fun e => h4 e.symm) X Y Z, h4, h5, h6⟩
theorem Two.setB {W w : World} {a b : Nat} {K G K' G' : Int} {P P' : ByteArray} (h : Two W w a b K G P K' G' P') (X Y : Int) (Z : ByteArray) : Two W (((w.setCell ⟨b, 0, none⟩ (.int .i64 X)).setCell ⟨b, 1, none⟩ (.int .i64 Y)).setCell ⟨b, 2, none⟩ (.string Z)) a b K G P X Y Z := by
  obtain ⟨h1, h2, h3, h4, h5, h6⟩ := h
  exact ⟨below_set3 h1 h6 X Y Z, h2.other h4 X Y Z, h3.set X Y Z, h4, h5, h6⟩
theorem make_run0 (w : World) : (Instr.makeSlice 35 (.int .i64 0) (.int .i64 0)).run Tryd.prog w = .ok (.slice (some ⟨w.heap.size, 0, none⟩) 0 0) (mk 0 w) := make_run 0 (by decide) w
theorem make_run1024 (w : World) : (Instr.makeSlice 35 (.int .i64 1024) (.int .i64 1024)).run Tryd.prog w = .ok (.slice (some ⟨w.heap.size, 0, none⟩) 1024 1024) (mk 1024 w) := make_run 1024 (by decide) w

theorem make_conv_alloc (n : Nat) (w : World) (o : Obj) : (convert 35 9 (.slice (some ⟨w.heap.size + 1, 0, none⟩) n n)).run Tryd.prog (mk n (w.alloc o)) = .ok (.string (zeros n)) (mk n (w.alloc o)) := by
  have h := make_conv n (w.alloc o)
  rw [show (w.alloc o).heap.size = w.heap.size + 1 by simp] at h
  exact h
theorem make_conv_set (n : Nat) (w : World) (a b c : Addr) (x y z : Value) : (convert 35 9 (.slice (some ⟨w.heap.size, 0, none⟩) n n)).run Tryd.prog (mk n (((w.setCell a x).setCell b y).setCell c z)) = .ok (.string (zeros n)) (mk n (((w.setCell a x).setCell b y).setCell c z)) := by
  have h := make_conv n (((w.setCell a x).setCell b y).setCell c z)
  rw [show (((w.setCell a x).setCell b y).setCell c z).heap.size = w.heap.size by simp] at h
  exact h

set_option maxRecDepth 10000 in
set_option maxHeartbeats 4000000 in
theorem opens_any (S : ByteArray) (w : World) (hT : Tab w) (hS : S.size ≤ 9223372036854775807) :
    Calls Tryd.prog 4 #[.string S] w fun e w' => e = .returned (.bool true) ∧ Below w.heap.size w w' := by
  have h8 := awake_any w hT
  have h1 := fun w' (h' : Tab w') => open_any S w' h'
  have h2 := fun w' (_ : Tab w') => ropen_any S w'
  generalize openR S = T at *
  obtain ⟨K1, G1, P1, E1⟩ := T
  have h5 := fun w' (h' : Tab w') => open_any (zeros 1024) w' h'
  rw [zeros_out] at h5
  have H8 := hide h8
  have H1 := hide h1
  have H2 := hide h2
  have H5 := hide h5
  have HT := hide hT
  clear h8 h1 h2 h5 hT
  by_cases hbig : 8192 < S.size
  · go_enter Tryd.func4, Tryd.ntmps4
    go_wp2_with (go_at_call 8; refine (unhide H8).mono ?_; rintro e w1 ⟨rfl, hb1⟩)
    go_ret
    exact ⟨rfl, hb1⟩
  by_cases hcut : 1020 < S.size
  · obtain ⟨A, hA⟩ : ∃ A, S.extract 0 1020 = A := ⟨_, rfl⟩
    have hAz : A.size = 1020 := by rw [← hA, ByteArray.size_extract]; omega
    have hmk := make_run0
    have hmc := make_conv 0
    have hmca := make_conv_alloc 0
    have hmk1 := make_run1024
    have hmcs := make_conv_set 1024
    have hmc1 := make_conv 1024
    have hz0 := zeros_size 0
    have hUz : (A ++ zeros 0).size = 1020 := by rw [ByteArray.size_append, zeros_size]; omega
    obtain ⟨U, hU⟩ : ∃ U, A ++ zeros 0 = U := ⟨_, rfl⟩
    rw [hU] at hUz
    have hs := fun w' => refSum_any U w' (by unfold maxLen; omega)
    have hc := Crc.sum_lt (bn U) (bn_lt U)
    generalize Crc.sum (bn U) = c at *
    have hfc := four_conv
    have z4 : ∀ a b c d : Int, (strOfNums [a, b, c, d]).size = 4 := fun a b c d => by rw [strOfNums_size]; rfl
    obtain ⟨V, hV⟩ : ∃ V, U ++ strOfNums [(c : Int) % 256, (c : Int) / 256 % 256, (c : Int) / 65536 % 256, (c : Int) / 16777216] = V := ⟨_, rfl⟩
    have h3 := fun w' (h' : Tab w') => open_any V w' h'
    have h4 := fun w' (_ : Tab w') => ropen_any V w'
    generalize openR V = T2 at *
    obtain ⟨K2, G2, P2, E2⟩ := T2
    have HS := hide hs
    have H3 := hide h3
    have H4 := hide h4
    clear hs h3 h4
    go_enter Tryd.func4, Tryd.ntmps4
    go_wp2_with (first
      | (go_at_call 8; refine (unhide H8).mono ?_; rintro e w1 ⟨rfl, b1⟩)
      | (go_at_call 11; refine (unhide H1 _ ((unhide HT).below b1)).mono ?_; unfold opened; rintro e w2 ⟨rfl, hb2⟩; have s1 := hide (Cel.one (below_then b1 hb2) K1 G1 P1); clear b1 hb2)
      | (go_at_call 12; refine (unhide H2 _ ((unhide HT).below (unhide s1).1)).mono ?_; unfold opened; rintro e w3 ⟨rfl, hb3⟩; have s2 := hide (Cel.two (unhide s1) hb3 K1 G1 P1); obtain ⟨a0, a1, a2, af⟩ := (unhide s2).2.1.cells; clear s1 hb3)
      | (go_at_call 13; refine (unhide HS _).mono ?_; rintro e w4 ⟨rfl, hw⟩; have hw := hw.symm; subst hw)
      | (go_at_call 11; refine (unhide H3 _ ((unhide HT).below (below_then (unhide s2).1 (below_then (mk_below _ _) ((Below.refl _ _).alloc (Nat.le_refl _) _))))).mono ?_; unfold opened; rintro e w5 ⟨rfl, hb5⟩; have s3 := hide (((unhide s2).then (below_then (mk_below _ _) ((Below.refl _ _).alloc (Nat.le_refl _) _))).then hb5); clear s2 hb5 a0 a1 a2 af; obtain ⟨a0, a1, a2, af⟩ := (unhide s3).2.1.cells; obtain ⟨b0, b1, b2, bf⟩ := (unhide s3).2.2.1.cells; have s4 := hide ((unhide s3).setA K2 G2 P2); clear s3)
      | (go_at_call 12; refine (unhide H4 _ ((unhide HT).below (unhide s4).1)).mono ?_; unfold opened; rintro e w6 ⟨rfl, hb6⟩; have s5 := hide ((unhide s4).then hb6); clear s4 hb6 a0 a1 a2 af b0 b1 b2 bf; obtain ⟨a0, a1, a2, af⟩ := (unhide s5).2.1.cells; obtain ⟨b0, b1, b2, bf⟩ := (unhide s5).2.2.1.cells; have s6 := hide ((unhide s5).setB K2 G2 P2); clear s5)
      | (go_at_call 11; refine (unhide H5 _ ((unhide HT).below (below_then (unhide s6).1 (mk_below _ _)))).mono ?_; unfold opened; rintro e w7 ⟨rfl, hb7⟩; have s7 := hide (((unhide s6).then (mk_below _ _)).then hb7); clear s6 hb7 a0 a1 a2 af b0 b1 b2 bf; obtain ⟨a0, a1, a2, af⟩ := (unhide s7).2.1.all; obtain ⟨b0, b1, b2, bf⟩ := (unhide s7).2.2.1.all))
    go_ret
    exact ⟨rfl, (unhide s7).1.alloc (unhide s7).1.size _⟩
  · obtain ⟨n, hn⟩ : ∃ n : Nat, n + S.size = 1020 := ⟨1020 - S.size, by omega⟩
    have v5 : (1020 : Int) - (S.size : Int) = (n : Int) := by omega
    have hmk := make_run n (by omega)
    have hmc := make_conv n
    have hmca := make_conv_alloc n
    have hmk1 := make_run1024
    have hmcs := make_conv_set 1024
    have hmc1 := make_conv 1024
    have hz0 := zeros_size n
    have hUz : (S ++ zeros n).size = 1020 := by rw [ByteArray.size_append, zeros_size]; omega
    obtain ⟨U, hU⟩ : ∃ U, S ++ zeros n = U := ⟨_, rfl⟩
    rw [hU] at hUz
    have hs := fun w' => refSum_any U w' (by unfold maxLen; omega)
    have hc := Crc.sum_lt (bn U) (bn_lt U)
    generalize Crc.sum (bn U) = c at *
    have hfc := four_conv
    have z4 : ∀ a b c d : Int, (strOfNums [a, b, c, d]).size = 4 := fun a b c d => by rw [strOfNums_size]; rfl
    obtain ⟨V, hV⟩ : ∃ V, U ++ strOfNums [(c : Int) % 256, (c : Int) / 256 % 256, (c : Int) / 65536 % 256, (c : Int) / 16777216] = V := ⟨_, rfl⟩
    have h3 := fun w' (h' : Tab w') => open_any V w' h'
    have h4 := fun w' (_ : Tab w') => ropen_any V w'
    generalize openR V = T2 at *
    obtain ⟨K2, G2, P2, E2⟩ := T2
    have HS := hide hs
    have H3 := hide h3
    have H4 := hide h4
    clear hs h3 h4
    go_enter Tryd.func4, Tryd.ntmps4
    go_wp2_with (first
      | (go_at_call 8; refine (unhide H8).mono ?_; rintro e w1 ⟨rfl, b1⟩)
      | (go_at_call 11; refine (unhide H1 _ ((unhide HT).below b1)).mono ?_; unfold opened; rintro e w2 ⟨rfl, hb2⟩; have s1 := hide (Cel.one (below_then b1 hb2) K1 G1 P1); clear b1 hb2)
      | (go_at_call 12; refine (unhide H2 _ ((unhide HT).below (unhide s1).1)).mono ?_; unfold opened; rintro e w3 ⟨rfl, hb3⟩; have s2 := hide (Cel.two (unhide s1) hb3 K1 G1 P1); obtain ⟨a0, a1, a2, af⟩ := (unhide s2).2.1.cells; clear s1 hb3)
      | (go_at_call 13; refine (unhide HS _).mono ?_; rintro e w4 ⟨rfl, hw⟩; have hw := hw.symm; subst hw)
      | (go_at_call 11; refine (unhide H3 _ ((unhide HT).below (below_then (unhide s2).1 (below_then (mk_below _ _) ((Below.refl _ _).alloc (Nat.le_refl _) _))))).mono ?_; unfold opened; rintro e w5 ⟨rfl, hb5⟩; have s3 := hide (((unhide s2).then (below_then (mk_below _ _) ((Below.refl _ _).alloc (Nat.le_refl _) _))).then hb5); clear s2 hb5 a0 a1 a2 af; obtain ⟨a0, a1, a2, af⟩ := (unhide s3).2.1.cells; obtain ⟨b0, b1, b2, bf⟩ := (unhide s3).2.2.1.cells; have s4 := hide ((unhide s3).setA K2 G2 P2); clear s3)
      | (go_at_call 12; refine (unhide H4 _ ((unhide HT).below (unhide s4).1)).mono ?_; unfold opened; rintro e w6 ⟨rfl, hb6⟩; have s5 := hide ((unhide s4).then hb6); clear s4 hb6 a0 a1 a2 af b0 b1 b2 bf; obtain ⟨a0, a1, a2, af⟩ := (unhide s5).2.1.cells; obtain ⟨b0, b1, b2, bf⟩ := (unhide s5).2.2.1.cells; have s6 := hide ((unhide s5).setB K2 G2 P2); clear s5)
      | (go_at_call 11; refine (unhide H5 _ ((unhide HT).below (below_then (unhide s6).1 (mk_below _ _)))).mono ?_; unfold opened; rintro e w7 ⟨rfl, hb7⟩; have s7 := hide (((unhide s6).then (mk_below _ _)).then hb7); clear s6 hb7 a0 a1 a2 af b0 b1 b2 bf; obtain ⟨a0, a1, a2, af⟩ := (unhide s7).2.1.all; obtain ⟨b0, b1, b2, bf⟩ := (unhide s7).2.2.1.all))
    go_ret
    exact ⟨rfl, (unhide s7).1.alloc (unhide s7).1.size _⟩
end Go.Proofs.YtlccdefpgkmmnaaDoor
