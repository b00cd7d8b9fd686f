/- What a super's read and Open do: the document's super, or the error. -/
import Derived.Test.YtdkgifjmahkiaaaDoorSb
namespace Go.Proofs.YtdkgifjmahkiaaaDoor
open Go.ChangeShapes Go.WideShapes Go.ChangeAt Go.RowKit
open L4

/-- the answer's variable is as it began, and the reader stands there -/
def Rs (W w : World) (r : Nat) (L : ByteArray) (e : Nat) : Prop := Below W.heap.size W w ∧ Bk w W.heap.size (.int .i64 0) (.int .i64 0) (.int .i64 0) 23 ∧ Rd w r L e ∧ W.heap.size < r
theorem Rs.told {W w w' : World} {r e e' : Nat} {L L' : ByteArray} (h : Rs W w r L e) (t : L4.Told w w' r L' e') : Rs W w' r L' e' :=
  ⟨h.1.grown t.1 h.1.size (fun x hx => by cases hx; exact Nat.le_of_lt h.2.2.2), (t.1.block _ h.2.1.lt (fun e => by cases e; exact absurd h.2.2.2 (Nat.lt_irrefl _))).trans h.2.1, t.2, h.2.2.2⟩
def f1 (P : ByteArray) : Nat × ByteArray × Nat := fixedR P 0
def f2 (P : ByteArray) : Nat × ByteArray × Nat := fixedR (f1 P).2.1 (f1 P).2.2
def f3 (P : ByteArray) : Nat × ByteArray × Nat := fixedR (f2 P).2.1 (f2 P).2.2
theorem fixedR_size (L : ByteArray) (e : Nat) : (fixedR L e).2.1.size ≤ L.size := by
  unfold fixedR
  split
  · exact Nat.le_refl _
  · split
    · exact Nat.le_refl _
    · show (L.extract 8 L.size).size ≤ _
      rw [size_from]
      omega
theorem fixedR_lt (L : ByteArray) (e : Nat) : (fixedR L e).1 < 18446744073709551616 := by
  unfold fixedR
  split
  · exact (by decide : (0 : Nat) < 18446744073709551616)
  · split
    · exact (by decide : (0 : Nat) < 18446744073709551616)
    · have h := Pk.fixN_lt ((bn L).take 8) (fun b hb => bn_lt L b (List.mem_of_mem_take hb))
      exact Nat.lt_of_lt_of_le h (Nat.pow_le_pow_right (by decide) (show _ ≤ 8 by rw [List.length_take]; omega))
theorem wrap64_eq (x : Int) : wrap64 x = IntKind.i64.wrap x := by
  rw [IntKind.wrap_i64]
  unfold wrap64
  omega
set_option maxRecDepth 10000 in
set_option maxHeartbeats 1000000 in
theorem sread_any (P : ByteArray) (w : World) (hP : P.size ≤ 1000000) :
    Calls Tryd.prog 25 #[.string P] w fun e w' => e = .returned (.agg #[.int .i64 (IntKind.i64.wrap ((f3 P).1 : Int)), .int .i64 (IntKind.i64.wrap ((f1 P).1 : Int)), .int .i64 (IntKind.i64.wrap ((f2 P).1 : Int))]) ∧ Below w.heap.size w w' := by
  have h1 := fun W w' r (h : Rs W w' r P 0) => (rfixed_any r 0 P w' h.2.2.1 hP).mono (R' := fun x w2 => x = .returned (.int .u64 ((f1 P).1 : Int)) ∧ Rs W w2 r (f1 P).2.1 (f1 P).2.2) (fun x w2 ⟨hx, ht⟩ => ⟨hx, h.told ht⟩)
  have z1 : (f1 P).2.1.size ≤ 1000000 := Nat.le_trans (fixedR_size _ _) hP
  have h2 := fun W w' r (h : Rs W w' r (f1 P).2.1 (f1 P).2.2) => (rfixed_any r _ _ w' h.2.2.1 z1).mono (R' := fun x w2 => x = .returned (.int .u64 ((f2 P).1 : Int)) ∧ Rs W w2 r (f2 P).2.1 (f2 P).2.2) (fun x w2 ⟨hx, ht⟩ => ⟨hx, h.told ht⟩)
  have z2 : (f2 P).2.1.size ≤ 1000000 := Nat.le_trans (fixedR_size _ _) z1
  have h3 := fun W w' r (h : Rs W w' r (f2 P).2.1 (f2 P).2.2) => (rfixed_any r _ _ w' h.2.2.1 z2).mono (R' := fun x w2 => x = .returned (.int .u64 ((f3 P).1 : Int)) ∧ Rs W w2 r (f3 P).2.1 (f3 P).2.2) (fun x w2 ⟨hx, ht⟩ => ⟨hx, h.told ht⟩)
  have h0 : ∀ W, Calls Tryd.prog 34 #[.string P] (W.alloc (.cells #[.int .i64 0, .int .i64 0, .int .i64 0] 23)) fun x w2 => ∃ r, x = .returned (.pointer (some ⟨r, 0, none⟩)) ∧ Rs W w2 r P 0 := fun W => (read_any P _).mono (by
    rintro x w2 ⟨rfl, rfl⟩
    exact ⟨_, rfl, (b_alloc _ _).alloc (b_alloc _ _).size _, (Bk.new _ _ _ _ _).then (b_alloc _ _), Rd.new _ _, by simp⟩)
  have H0 := hide h0
  have H1 := hide h1
  have H2 := hide h2
  have H3 := hide h3
  clear h0 h1 h2 h3 z1 z2
  generalize f1 P = A at *
  generalize f2 P = B at *
  generalize f3 P = C at *
  obtain ⟨a, L1, e1⟩ := A
  obtain ⟨b, L2, e2⟩ := B
  obtain ⟨c, L3, e3⟩ := C
  dsimp only at *
  go_enter Tryd.func25, Tryd.ntmps25
  go_wp2_with fail
  refine (unhide H0 w).mono ?_
  rintro e w1 ⟨r, rfl, hr⟩
  have R1 := hide hr
  clear hr
  go_wp2_with fail
  refine (unhide H1 w w1 r (unhide R1)).mono ?_
  rintro e w2 ⟨rfl, hr⟩
  have R2 := hide hr
  clear hr
  go_wp2_with fail
  refine (unhide H2 w w2 r (unhide R2)).mono ?_
  rintro e w3 ⟨rfl, hr⟩
  have R3 := hide hr
  clear hr
  go_wp2_with fail
  refine (unhide H3 w w3 r (unhide R3)).mono ?_
  rintro e w4 ⟨rfl, hr⟩
  obtain ⟨c0, c1, c2, cf⟩ := hr.2.1.cells
  have HB := hide hr.1
  clear hr R1 R2 R3 H0 H1 H2 H3
  go_wp2
  refine bodyPost_ret (v := .agg #[.int .i64 (IntKind.i64.wrap (c : Int)), .int .i64 (IntKind.i64.wrap (a : Int)), .int .i64 (IntKind.i64.wrap (b : Int))]) ?_ rfl ⟨rfl, ?_⟩
  · rw [results_cell rfl]
    go_simp
    exact ⟨wrap64_eq _, wrap64_eq _, wrap64_eq _⟩
  · exact below_set (below_set (below_set (unhide HB) (Nat.le_refl _)) (Nat.le_refl _)) (Nat.le_refl _)

/- the numbers of a payload of 24 bytes -/
theorem f_of {P : ByteArray} (h : P.size = 24) : f1 P = (n1 P, P.extract 8 24, 0) ∧ f2 P = (n2 P, P.extract 16 24, 0) ∧ f3 P = (n3 P, P.extract 24 24, 0) := by
  have e0 : P.extract 0 P.size = P := ext0 P
  have a1 := fixedR_at P 0 (by omega)
  have a2 := fixedR_at P 8 (by omega)
  have a3 := fixedR_at P 16 (by omega)
  rw [h] at a1 a2 a3
  rw [h] at e0
  rw [e0] at a1
  have b1 : f1 P = (n1 P, P.extract 8 24, 0) := by
    unfold f1 n1
    rw [a1, List.drop_zero]
  have b2 : f2 P = (n2 P, P.extract 16 24, 0) := by
    unfold f2 n2
    rw [b1]
    exact a2
  refine ⟨b1, b2, ?_⟩
  unfold f3 n3
  rw [b2]
  exact a3
theorem wrap_of {x : Nat} (h : x < 18446744073709551616) (h0 : 0 ≤ IntKind.i64.wrap (x : Int)) : IntKind.i64.wrap (x : Int) = (x : Int) := by
  rw [IntKind.wrap_i64] at *
  omega
theorem wrap_lo {x : Nat} (h : x < 9223372036854775808) : IntKind.i64.wrap (x : Int) = (x : Int) := by
  rw [IntKind.wrap_i64]
  omega
/-- the super that a payload seems to be of: Gen, Root, Sectors -/
def sg (P : ByteArray) : Int := IntKind.i64.wrap ((f3 P).1 : Int)
def sr (P : ByteArray) : Int := IntKind.i64.wrap ((f1 P).1 : Int)
def ss (P : ByteArray) : Int := IntKind.i64.wrap ((f2 P).1 : Int)
/-- it is a super's block just where it is the block that the super has -/
theorem isSup_of {K G : Int} {P : ByteArray} (hm : MayB (sg P) (sr P) (ss P)) (hK : K = 9) (hG : G = sg P) (hP : P = spay (sr P).toNat (ss P).toNat (sg P).toNat) : IsSup K G P ∧ sr P = (n1 P : Nat) ∧ ss P = (n2 P : Nat) := by
  have h24 : P.size = 24 := by rw [hP, spay_size]
  obtain ⟨a1, a2, a3⟩ := f_of h24
  have b1 : sr P = (n1 P : Nat) := by
    unfold sr
    rw [a1]
    refine wrap_of (n1_lt P) ?_
    have : 0 ≤ sr P := by obtain ⟨_, _, h⟩ := hm; omega
    unfold sr at this
    rw [a1] at this
    exact this
  have b2 : ss P = (n2 P : Nat) := by
    unfold ss
    rw [a2]
    refine wrap_of (n2_lt P) ?_
    have : 0 ≤ ss P := by obtain ⟨_, ⟨h, _⟩, _⟩ := hm; omega
    unfold ss at this
    rw [a2] at this
    exact this
  have b3 : sg P = (n3 P : Nat) := by
    unfold sg
    rw [a3]
    refine wrap_of (n3_lt P) ?_
    have : 0 ≤ sg P := by obtain ⟨⟨h, _⟩, _⟩ := hm; omega
    unfold sg at this
    rw [a3] at this
    exact this
  refine ⟨⟨hK, h24, by rw [hG, b3], ?_⟩, b1, b2⟩
  rw [hG, ← b1, ← b2]
  exact hm
theorem of_isSup {K G : Int} {P : ByteArray} (h : IsSup K G P) : MayB (sg P) (sr P) (ss P) ∧ K = 9 ∧ G = sg P ∧ P = spay (sr P).toNat (ss P).toNat (sg P).toNat := by
  obtain ⟨hK, h24, hg, hm⟩ := h
  obtain ⟨a1, a2, a3⟩ := f_of h24
  have hm' := hm
  obtain ⟨⟨g1, g2⟩, ⟨s1, s2⟩, r1⟩ := hm
  have b1 : sr P = (n1 P : Nat) := by
    unfold sr
    rw [a1]
    exact wrap_lo (by omega)
  have b2 : ss P = (n2 P : Nat) := by
    unfold ss
    rw [a2]
    exact wrap_lo (by omega)
  have b3 : sg P = (n3 P : Nat) := by
    unfold sg
    rw [a3]
    exact wrap_lo (by omega)
  rw [b1, b2, b3, hg]
  refine ⟨hm', hK, rfl, ?_⟩
  have e3 : G.toNat = n3 P := by omega
  rw [Int.toNat_natCast, Int.toNat_natCast, e3]
  exact spay_of h24

/-- what an answer of Open is -/
def sopened (T : Int × Int × Int × Nat) : Value := .tuple #[.agg #[.int .i64 T.1, .int .i64 T.2.1, .int .i64 T.2.2.1], .int .i64 (T.2.2.2 : Nat)]
theorem openR_pay {t : ByteArray} (h : (openR t).2.2.2 = 0) : (openR t).2.2.1.size ≤ 1007 := by
  rcases openR_cases t with ⟨h1, h2, h3⟩ | ⟨e, h1, h2⟩
  · rw [openR_ok h1 h2 h3]
    show (L4.strOf (Blk.payOf (bn t))).size ≤ 1007
    rw [strOf_size]
    have := h3.2.1
    unfold Blk.payOf
    rw [List.length_take]
    omega
  · rw [h2] at h
    have h' : e = 0 := h
    omega

set_option maxRecDepth 10000 in
set_option maxHeartbeats 2000000 in
theorem sopen_no (t : ByteArray) (K G : Int) (P : ByteArray) (w : World) (hT : Tab w) (ho : openR t = (K, G, P, 0)) (hP : P.size ≤ 1007) (g r s : Int) (hg : sg P = g) (hr : sr P = r) (hs : ss P = s) (hm : ¬ MayB g r s) :
    Calls Tryd.prog 14 #[.string t] w fun e w' => e = .returned (sopened (0, 0, 0, 101)) ∧ Below w.heap.size w w' := by
  have h1 := fun W (hW : Tab W) => open_any t W hW
  rw [ho] at h1
  have h2 := fun W => sread_any P W (by omega)
  have h2' : ∀ W, Calls Tryd.prog 25 #[.string P] W fun e w' => e = .returned (.agg #[.int .i64 (sg P), .int .i64 (sr P), .int .i64 (ss P)]) ∧ Below W.heap.size W w' := h2
  rw [hg, hr, hs] at h2'
  have h3 := fun W => maybe_any g r s W
  rw [decide_eq_false hm] at h3
  have H1 := hide h1
  have H2 := hide h2'
  have H3 := hide h3
  have HT := hide hT
  clear h1 h2 h2' h3 hT ho hP hg hr hs
  clear hm
  go_enter Tryd.func14, Tryd.ntmps14
  go_wp2_with fail
  have HB0 := hide (b_alloc w (.cells #[.int .i64 0, .int .i64 0, .int .i64 0] 23))
  have HX0 := hide (Bk.new w (.int .i64 0) (.int .i64 0) (.int .i64 0) 23)
  generalize w.alloc (.cells #[.int .i64 0, .int .i64 0, .int .i64 0] 23) = w0 at *
  refine (unhide H1 _ ((unhide HT).below (unhide HB0))).mono ?_
  unfold opened
  rintro e w1 ⟨rfl, hb⟩
  have HB1 := hide (below_then (unhide HB0) hb)
  have HX1 := hide ((unhide HX0).then hb)
  clear hb HB0 HX0
  go_wp2_with fail
  have HB2 := hide (below_then (unhide HB1) (b_alloc w1 (.cells #[.int .i64 K, .int .i64 G, .string P] 33)))
  have HX2 := hide ((unhide HX1).then (b_alloc w1 (.cells #[.int .i64 K, .int .i64 G, .string P] 33)))
  have HY2 := hide (Bk.new w1 (.int .i64 K) (.int .i64 G) (.string P) 33)
  obtain ⟨b, hbe⟩ : ∃ b, b = w1.heap.size := ⟨_, rfl⟩
  rw [← hbe] at HY2 ⊢
  generalize w1.alloc (.cells #[.int .i64 K, .int .i64 G, .string P] 33) = w2 at *
  clear hbe HB1 HX1
  refine (unhide H2 w2).mono ?_
  rintro e w3 ⟨rfl, hb⟩
  have HB3 := hide (below_then (unhide HB2) hb)
  have HX3 := hide ((unhide HX2).then hb)
  have HY3 := hide ((unhide HY2).then hb)
  clear hb HB2 HX2 HY2
  go_wp2_with fail
  have HB4 := hide (below_then (unhide HB3) (b_alloc w3 (.cells #[.int .i64 g, .int .i64 r, .int .i64 s] 23)))
  have HX4 := hide ((unhide HX3).then (b_alloc w3 (.cells #[.int .i64 g, .int .i64 r, .int .i64 s] 23)))
  have HY4 := hide ((unhide HY3).then (b_alloc w3 (.cells #[.int .i64 g, .int .i64 r, .int .i64 s] 23)))
  have HZ4 := hide (Bk.new w3 (.int .i64 g) (.int .i64 r) (.int .i64 s) 23)
  obtain ⟨c, hce⟩ : ∃ c, c = w3.heap.size := ⟨_, rfl⟩
  rw [← hce] at HZ4 ⊢
  generalize w3.alloc (.cells #[.int .i64 g, .int .i64 r, .int .i64 s] 23) = w4 at *
  clear hce HB3 HX3 HY3
  have KP : Hid (∀ wa wb, (fun w' => Below w.heap.size w w' ∧ Bk w' w.heap.size (.int .i64 0) (.int .i64 0) (.int .i64 0) 23 ∧ w'.cell? ⟨b, 0, none⟩ = some (.int .i64 K) ∧ w'.cell? ⟨b, 1, none⟩ = some (.int .i64 G) ∧ w'.cell? ⟨b, 2, none⟩ = some (.string P) ∧ w'.cell? ⟨c, 0, none⟩ = some (.int .i64 g) ∧ w'.cell? ⟨c, 1, none⟩ = some (.int .i64 r) ∧ w'.cell? ⟨c, 2, none⟩ = some (.int .i64 s)) wa → Below wa.heap.size wa wb → (fun w' => Below w.heap.size w w' ∧ Bk w' w.heap.size (.int .i64 0) (.int .i64 0) (.int .i64 0) 23 ∧ w'.cell? ⟨b, 0, none⟩ = some (.int .i64 K) ∧ w'.cell? ⟨b, 1, none⟩ = some (.int .i64 G) ∧ w'.cell? ⟨b, 2, none⟩ = some (.string P) ∧ w'.cell? ⟨c, 0, none⟩ = some (.int .i64 g) ∧ w'.cell? ⟨c, 1, none⟩ = some (.int .i64 r) ∧ w'.cell? ⟨c, 2, none⟩ = some (.int .i64 s)) wb) := fun wa wb h hb =>
    ⟨below_then h.1 hb, h.2.1.then hb, (hb.cell (World.block_lt_of_cell? wa _ h.2.2.1)).trans h.2.2.1, (hb.cell (World.block_lt_of_cell? wa _ h.2.2.2.1)).trans h.2.2.2.1, (hb.cell (World.block_lt_of_cell? wa _ h.2.2.2.2.1)).trans h.2.2.2.2.1,
      (hb.cell (World.block_lt_of_cell? wa _ h.2.2.2.2.2.1)).trans h.2.2.2.2.2.1, (hb.cell (World.block_lt_of_cell? wa _ h.2.2.2.2.2.2.1)).trans h.2.2.2.2.2.2.1, (hb.cell (World.block_lt_of_cell? wa _ h.2.2.2.2.2.2.2)).trans h.2.2.2.2.2.2.2⟩
  have H0 : Hid ((fun w' => Below w.heap.size w w' ∧ Bk w' w.heap.size (.int .i64 0) (.int .i64 0) (.int .i64 0) 23 ∧ w'.cell? ⟨b, 0, none⟩ = some (.int .i64 K) ∧ w'.cell? ⟨b, 1, none⟩ = some (.int .i64 G) ∧ w'.cell? ⟨b, 2, none⟩ = some (.string P) ∧ w'.cell? ⟨c, 0, none⟩ = some (.int .i64 g) ∧ w'.cell? ⟨c, 1, none⟩ = some (.int .i64 r) ∧ w'.cell? ⟨c, 2, none⟩ = some (.int .i64 s)) w4) := ⟨unhide HB4, unhide HX4, (unhide HY4).cells.1, (unhide HY4).cells.2.1, (unhide HY4).cells.2.2.1, (unhide HZ4).cells.1, (unhide HZ4).cells.2.1, (unhide HZ4).cells.2.2.1⟩
  have H0' : Hid ((fun w' => Below w.heap.size w w' ∧ Bk w' w.heap.size (.int .i64 0) (.int .i64 0) (.int .i64 0) 23 ∧ w'.cell? ⟨b, 0, none⟩ = some (.int .i64 K) ∧ w'.cell? ⟨b, 1, none⟩ = some (.int .i64 G) ∧ w'.cell? ⟨b, 2, none⟩ = some (.string P) ∧ w'.cell? ⟨c, 0, none⟩ = some (.int .i64 g) ∧ w'.cell? ⟨c, 1, none⟩ = some (.int .i64 r) ∧ w'.cell? ⟨c, 2, none⟩ = some (.int .i64 s)) w4.drew) := unhide KP _ _ (unhide H0) (Below.refl _ _).drew
  clear HB4 HX4 HY4 HZ4 HT H1 H2
  obtain ⟨_, _, _, _, _, c0, c1, c2⟩ := unhide H0'
  go_region_with (go_at_call 18; refine (unhide H3 _).mono ?_; rintro e w5 ⟨rfl, hb⟩; have HF := unhide KP _ _ (unhide H0') hb; clear hb)
  all_goals
    simp only [Act.put, List.setIfInBounds_toArray]
    obtain ⟨hb, hx, _⟩ := HF
    have HB := hide hb
    obtain ⟨d0, d1, d2, df⟩ := hx.cells
    clear hb hx KP H0 H0'
    go_wp2
    refine bodyPost_ret (v := sopened (0, 0, 0, 101)) ?_ rfl ⟨rfl, ?_⟩
    · rw [results_cell_tmp rfl]
      go_simp <;> rfl
    · exact below_set (below_set (below_set (unhide HB) (Nat.le_refl _)) (Nat.le_refl _)) (Nat.le_refl _)

set_option maxRecDepth 10000 in
set_option maxHeartbeats 2000000 in
theorem sopen_k (t : ByteArray) (K G : Int) (P : ByteArray) (w : World) (hT : Tab w) (ho : openR t = (K, G, P, 0)) (hP : P.size ≤ 1007) (g r s : Int) (hg : sg P = g) (hr : sr P = r) (hs : ss P = s) (hm : MayB g r s) (hx : ¬ K = 9) :
    Calls Tryd.prog 14 #[.string t] w fun e w' => e = .returned (sopened (0, 0, 0, 101)) ∧ Below w.heap.size w w' := by
  have h1 := fun W (hW : Tab W) => open_any t W hW
  rw [ho] at h1
  have h2 := fun W => sread_any P W (by omega)
  have h2' : ∀ W, Calls Tryd.prog 25 #[.string P] W fun e w' => e = .returned (.agg #[.int .i64 (sg P), .int .i64 (sr P), .int .i64 (ss P)]) ∧ Below W.heap.size W w' := h2
  rw [hg, hr, hs] at h2'
  have h3 := fun W => maybe_any g r s W
  rw [decide_eq_true hm] at h3
  have h4 : ∀ W, Calls Tryd.prog 20 #[.agg #[.int .i64 g, .int .i64 r, .int .i64 s]] W fun e w' => e = .returned (.agg #[.int .i64 9, .int .i64 g, .string (spay r.toNat s.toNat g.toNat)]) ∧ Below W.heap.size W w' := by
    obtain ⟨⟨a1, a2⟩, ⟨a3, a4⟩, a5⟩ := hm
    obtain ⟨g, rfl⟩ := Int.eq_ofNat_of_zero_le a1
    obtain ⟨r, rfl⟩ := Int.eq_ofNat_of_zero_le (show 0 ≤ r by omega)
    obtain ⟨s, rfl⟩ := Int.eq_ofNat_of_zero_le (show 0 ≤ s by omega)
    intro W
    exact blockof_any g r s W (by omega) (by omega) (by omega)
  have H4 := hide h4
  clear h4
  have H1 := hide h1
  have H2 := hide h2'
  have H3 := hide h3
  have HT := hide hT
  clear h1 h2 h2' h3 hT ho hP hg hr hs
  clear hm
  have k0 : (K == 9) = false := beq_eq_false_iff_ne.2 hx
  clear hx
  generalize spay r.toNat s.toNat g.toNat = Q at *
  go_enter Tryd.func14, Tryd.ntmps14
  go_wp2_with fail
  have HB0 := hide (b_alloc w (.cells #[.int .i64 0, .int .i64 0, .int .i64 0] 23))
  have HX0 := hide (Bk.new w (.int .i64 0) (.int .i64 0) (.int .i64 0) 23)
  generalize w.alloc (.cells #[.int .i64 0, .int .i64 0, .int .i64 0] 23) = w0 at *
  refine (unhide H1 _ ((unhide HT).below (unhide HB0))).mono ?_
  unfold opened
  rintro e w1 ⟨rfl, hb⟩
  have HB1 := hide (below_then (unhide HB0) hb)
  have HX1 := hide ((unhide HX0).then hb)
  clear hb HB0 HX0
  go_wp2_with fail
  have HB2 := hide (below_then (unhide HB1) (b_alloc w1 (.cells #[.int .i64 K, .int .i64 G, .string P] 33)))
  have HX2 := hide ((unhide HX1).then (b_alloc w1 (.cells #[.int .i64 K, .int .i64 G, .string P] 33)))
  have HY2 := hide (Bk.new w1 (.int .i64 K) (.int .i64 G) (.string P) 33)
  obtain ⟨b, hbe⟩ : ∃ b, b = w1.heap.size := ⟨_, rfl⟩
  rw [← hbe] at HY2 ⊢
  generalize w1.alloc (.cells #[.int .i64 K, .int .i64 G, .string P] 33) = w2 at *
  clear hbe HB1 HX1
  refine (unhide H2 w2).mono ?_
  rintro e w3 ⟨rfl, hb⟩
  have HB3 := hide (below_then (unhide HB2) hb)
  have HX3 := hide ((unhide HX2).then hb)
  have HY3 := hide ((unhide HY2).then hb)
  clear hb HB2 HX2 HY2
  go_wp2_with fail
  have HB4 := hide (below_then (unhide HB3) (b_alloc w3 (.cells #[.int .i64 g, .int .i64 r, .int .i64 s] 23)))
  have HX4 := hide ((unhide HX3).then (b_alloc w3 (.cells #[.int .i64 g, .int .i64 r, .int .i64 s] 23)))
  have HY4 := hide ((unhide HY3).then (b_alloc w3 (.cells #[.int .i64 g, .int .i64 r, .int .i64 s] 23)))
  have HZ4 := hide (Bk.new w3 (.int .i64 g) (.int .i64 r) (.int .i64 s) 23)
  obtain ⟨c, hce⟩ : ∃ c, c = w3.heap.size := ⟨_, rfl⟩
  rw [← hce] at HZ4 ⊢
  generalize w3.alloc (.cells #[.int .i64 g, .int .i64 r, .int .i64 s] 23) = w4 at *
  clear hce HB3 HX3 HY3
  have KP : Hid (∀ wa wb, (fun w' => Below w.heap.size w w' ∧ Bk w' w.heap.size (.int .i64 0) (.int .i64 0) (.int .i64 0) 23 ∧ w'.cell? ⟨b, 0, none⟩ = some (.int .i64 K) ∧ w'.cell? ⟨b, 1, none⟩ = some (.int .i64 G) ∧ w'.cell? ⟨b, 2, none⟩ = some (.string P) ∧ w'.cell? ⟨c, 0, none⟩ = some (.int .i64 g) ∧ w'.cell? ⟨c, 1, none⟩ = some (.int .i64 r) ∧ w'.cell? ⟨c, 2, none⟩ = some (.int .i64 s)) wa → Below wa.heap.size wa wb → (fun w' => Below w.heap.size w w' ∧ Bk w' w.heap.size (.int .i64 0) (.int .i64 0) (.int .i64 0) 23 ∧ w'.cell? ⟨b, 0, none⟩ = some (.int .i64 K) ∧ w'.cell? ⟨b, 1, none⟩ = some (.int .i64 G) ∧ w'.cell? ⟨b, 2, none⟩ = some (.string P) ∧ w'.cell? ⟨c, 0, none⟩ = some (.int .i64 g) ∧ w'.cell? ⟨c, 1, none⟩ = some (.int .i64 r) ∧ w'.cell? ⟨c, 2, none⟩ = some (.int .i64 s)) wb) := fun wa wb h hb =>
    ⟨below_then h.1 hb, h.2.1.then hb, (hb.cell (World.block_lt_of_cell? wa _ h.2.2.1)).trans h.2.2.1, (hb.cell (World.block_lt_of_cell? wa _ h.2.2.2.1)).trans h.2.2.2.1, (hb.cell (World.block_lt_of_cell? wa _ h.2.2.2.2.1)).trans h.2.2.2.2.1,
      (hb.cell (World.block_lt_of_cell? wa _ h.2.2.2.2.2.1)).trans h.2.2.2.2.2.1, (hb.cell (World.block_lt_of_cell? wa _ h.2.2.2.2.2.2.1)).trans h.2.2.2.2.2.2.1, (hb.cell (World.block_lt_of_cell? wa _ h.2.2.2.2.2.2.2)).trans h.2.2.2.2.2.2.2⟩
  have H0 : Hid ((fun w' => Below w.heap.size w w' ∧ Bk w' w.heap.size (.int .i64 0) (.int .i64 0) (.int .i64 0) 23 ∧ w'.cell? ⟨b, 0, none⟩ = some (.int .i64 K) ∧ w'.cell? ⟨b, 1, none⟩ = some (.int .i64 G) ∧ w'.cell? ⟨b, 2, none⟩ = some (.string P) ∧ w'.cell? ⟨c, 0, none⟩ = some (.int .i64 g) ∧ w'.cell? ⟨c, 1, none⟩ = some (.int .i64 r) ∧ w'.cell? ⟨c, 2, none⟩ = some (.int .i64 s)) w4) := ⟨unhide HB4, unhide HX4, (unhide HY4).cells.1, (unhide HY4).cells.2.1, (unhide HY4).cells.2.2.1, (unhide HZ4).cells.1, (unhide HZ4).cells.2.1, (unhide HZ4).cells.2.2.1⟩
  have H0' : Hid ((fun w' => Below w.heap.size w w' ∧ Bk w' w.heap.size (.int .i64 0) (.int .i64 0) (.int .i64 0) 23 ∧ w'.cell? ⟨b, 0, none⟩ = some (.int .i64 K) ∧ w'.cell? ⟨b, 1, none⟩ = some (.int .i64 G) ∧ w'.cell? ⟨b, 2, none⟩ = some (.string P) ∧ w'.cell? ⟨c, 0, none⟩ = some (.int .i64 g) ∧ w'.cell? ⟨c, 1, none⟩ = some (.int .i64 r) ∧ w'.cell? ⟨c, 2, none⟩ = some (.int .i64 s)) w4.drew) := unhide KP _ _ (unhide H0) (Below.refl _ _).drew
  clear HB4 HX4 HY4 HZ4 HT H1 H2
  go_region_held3 (fun w' => Below w.heap.size w w' ∧ Bk w' w.heap.size (.int .i64 0) (.int .i64 0) (.int .i64 0) 23 ∧ w'.cell? ⟨b, 0, none⟩ = some (.int .i64 K) ∧ w'.cell? ⟨b, 1, none⟩ = some (.int .i64 G) ∧ w'.cell? ⟨b, 2, none⟩ = some (.string P) ∧ w'.cell? ⟨c, 0, none⟩ = some (.int .i64 g) ∧ w'.cell? ⟨c, 1, none⟩ = some (.int .i64 r) ∧ w'.cell? ⟨c, 2, none⟩ = some (.int .i64 s))
    (first | assumption | exact unhide H0')
    (first
      | (go_at_call 18; refine (unhide H3 _).mono ?_; rintro e w5 ⟨rfl, hb⟩; have H5 := unhide KP _ _ (by first | assumption | exact unhide H0') hb; clear hb)
      | (go_at_call 20; refine (unhide H4 _).mono ?_; rintro e w6 ⟨rfl, hb⟩; have HF := unhide KP _ _ (by first | assumption | exact unhide H0') hb; clear hb))
  obtain ⟨hb, hx, _⟩ := HF
  have HB := hide hb
  obtain ⟨d0, d1, d2, df⟩ := hx.cells
  clear hb hx KP H0 H0'
  go_wp2
  refine bodyPost_ret (v := sopened (0, 0, 0, 101)) ?_ rfl ⟨rfl, ?_⟩
  · rw [results_cell_tmp rfl]
    go_simp <;> rfl
  · exact below_set (below_set (below_set (unhide HB) (Nat.le_refl _)) (Nat.le_refl _)) (Nat.le_refl _)

set_option maxRecDepth 10000 in
set_option maxHeartbeats 2000000 in
theorem sopen_g (t : ByteArray) (K G : Int) (P : ByteArray) (w : World) (hT : Tab w) (ho : openR t = (K, G, P, 0)) (hP : P.size ≤ 1007) (g r s : Int) (hg : sg P = g) (hr : sr P = r) (hs : ss P = s) (hm : MayB g r s) (hx : ¬ G = g) (h9 : K = 9) :
    Calls Tryd.prog 14 #[.string t] w fun e w' => e = .returned (sopened (0, 0, 0, 101)) ∧ Below w.heap.size w w' := by
  have h1 := fun W (hW : Tab W) => open_any t W hW
  rw [ho] at h1
  have h2 := fun W => sread_any P W (by omega)
  have h2' : ∀ W, Calls Tryd.prog 25 #[.string P] W fun e w' => e = .returned (.agg #[.int .i64 (sg P), .int .i64 (sr P), .int .i64 (ss P)]) ∧ Below W.heap.size W w' := h2
  rw [hg, hr, hs] at h2'
  have h3 := fun W => maybe_any g r s W
  rw [decide_eq_true hm] at h3
  have h4 : ∀ W, Calls Tryd.prog 20 #[.agg #[.int .i64 g, .int .i64 r, .int .i64 s]] W fun e w' => e = .returned (.agg #[.int .i64 9, .int .i64 g, .string (spay r.toNat s.toNat g.toNat)]) ∧ Below W.heap.size W w' := by
    obtain ⟨⟨a1, a2⟩, ⟨a3, a4⟩, a5⟩ := hm
    obtain ⟨g, rfl⟩ := Int.eq_ofNat_of_zero_le a1
    obtain ⟨r, rfl⟩ := Int.eq_ofNat_of_zero_le (show 0 ≤ r by omega)
    obtain ⟨s, rfl⟩ := Int.eq_ofNat_of_zero_le (show 0 ≤ s by omega)
    intro W
    exact blockof_any g r s W (by omega) (by omega) (by omega)
  have H4 := hide h4
  clear h4
  have H1 := hide h1
  have H2 := hide h2'
  have H3 := hide h3
  have HT := hide hT
  clear h1 h2 h2' h3 hT ho hP hg hr hs
  clear hm
  subst h9
  have k0 : (G == g) = false := beq_eq_false_iff_ne.2 hx
  clear hx
  generalize spay r.toNat s.toNat g.toNat = Q at *
  go_enter Tryd.func14, Tryd.ntmps14
  go_wp2_with fail
  have HB0 := hide (b_alloc w (.cells #[.int .i64 0, .int .i64 0, .int .i64 0] 23))
  have HX0 := hide (Bk.new w (.int .i64 0) (.int .i64 0) (.int .i64 0) 23)
  generalize w.alloc (.cells #[.int .i64 0, .int .i64 0, .int .i64 0] 23) = w0 at *
  refine (unhide H1 _ ((unhide HT).below (unhide HB0))).mono ?_
  unfold opened
  rintro e w1 ⟨rfl, hb⟩
  have HB1 := hide (below_then (unhide HB0) hb)
  have HX1 := hide ((unhide HX0).then hb)
  clear hb HB0 HX0
  go_wp2_with fail
  have HB2 := hide (below_then (unhide HB1) (b_alloc w1 (.cells #[.int .i64 9, .int .i64 G, .string P] 33)))
  have HX2 := hide ((unhide HX1).then (b_alloc w1 (.cells #[.int .i64 9, .int .i64 G, .string P] 33)))
  have HY2 := hide (Bk.new w1 (.int .i64 9) (.int .i64 G) (.string P) 33)
  obtain ⟨b, hbe⟩ : ∃ b, b = w1.heap.size := ⟨_, rfl⟩
  rw [← hbe] at HY2 ⊢
  generalize w1.alloc (.cells #[.int .i64 9, .int .i64 G, .string P] 33) = w2 at *
  clear hbe HB1 HX1
  refine (unhide H2 w2).mono ?_
  rintro e w3 ⟨rfl, hb⟩
  have HB3 := hide (below_then (unhide HB2) hb)
  have HX3 := hide ((unhide HX2).then hb)
  have HY3 := hide ((unhide HY2).then hb)
  clear hb HB2 HX2 HY2
  go_wp2_with fail
  have HB4 := hide (below_then (unhide HB3) (b_alloc w3 (.cells #[.int .i64 g, .int .i64 r, .int .i64 s] 23)))
  have HX4 := hide ((unhide HX3).then (b_alloc w3 (.cells #[.int .i64 g, .int .i64 r, .int .i64 s] 23)))
  have HY4 := hide ((unhide HY3).then (b_alloc w3 (.cells #[.int .i64 g, .int .i64 r, .int .i64 s] 23)))
  have HZ4 := hide (Bk.new w3 (.int .i64 g) (.int .i64 r) (.int .i64 s) 23)
  obtain ⟨c, hce⟩ : ∃ c, c = w3.heap.size := ⟨_, rfl⟩
  rw [← hce] at HZ4 ⊢
  generalize w3.alloc (.cells #[.int .i64 g, .int .i64 r, .int .i64 s] 23) = w4 at *
  clear hce HB3 HX3 HY3
  have KP : Hid (∀ wa wb, (fun w' => Below w.heap.size w w' ∧ Bk w' w.heap.size (.int .i64 0) (.int .i64 0) (.int .i64 0) 23 ∧ w'.cell? ⟨b, 0, none⟩ = some (.int .i64 9) ∧ w'.cell? ⟨b, 1, none⟩ = some (.int .i64 G) ∧ w'.cell? ⟨b, 2, none⟩ = some (.string P) ∧ w'.cell? ⟨c, 0, none⟩ = some (.int .i64 g) ∧ w'.cell? ⟨c, 1, none⟩ = some (.int .i64 r) ∧ w'.cell? ⟨c, 2, none⟩ = some (.int .i64 s)) wa → Below wa.heap.size wa wb → (fun w' => Below w.heap.size w w' ∧ Bk w' w.heap.size (.int .i64 0) (.int .i64 0) (.int .i64 0) 23 ∧ w'.cell? ⟨b, 0, none⟩ = some (.int .i64 9) ∧ w'.cell? ⟨b, 1, none⟩ = some (.int .i64 G) ∧ w'.cell? ⟨b, 2, none⟩ = some (.string P) ∧ w'.cell? ⟨c, 0, none⟩ = some (.int .i64 g) ∧ w'.cell? ⟨c, 1, none⟩ = some (.int .i64 r) ∧ w'.cell? ⟨c, 2, none⟩ = some (.int .i64 s)) wb) := fun wa wb h hb =>
    ⟨below_then h.1 hb, h.2.1.then hb, (hb.cell (World.block_lt_of_cell? wa _ h.2.2.1)).trans h.2.2.1, (hb.cell (World.block_lt_of_cell? wa _ h.2.2.2.1)).trans h.2.2.2.1, (hb.cell (World.block_lt_of_cell? wa _ h.2.2.2.2.1)).trans h.2.2.2.2.1,
      (hb.cell (World.block_lt_of_cell? wa _ h.2.2.2.2.2.1)).trans h.2.2.2.2.2.1, (hb.cell (World.block_lt_of_cell? wa _ h.2.2.2.2.2.2.1)).trans h.2.2.2.2.2.2.1, (hb.cell (World.block_lt_of_cell? wa _ h.2.2.2.2.2.2.2)).trans h.2.2.2.2.2.2.2⟩
  have H0 : Hid ((fun w' => Below w.heap.size w w' ∧ Bk w' w.heap.size (.int .i64 0) (.int .i64 0) (.int .i64 0) 23 ∧ w'.cell? ⟨b, 0, none⟩ = some (.int .i64 9) ∧ w'.cell? ⟨b, 1, none⟩ = some (.int .i64 G) ∧ w'.cell? ⟨b, 2, none⟩ = some (.string P) ∧ w'.cell? ⟨c, 0, none⟩ = some (.int .i64 g) ∧ w'.cell? ⟨c, 1, none⟩ = some (.int .i64 r) ∧ w'.cell? ⟨c, 2, none⟩ = some (.int .i64 s)) w4) := ⟨unhide HB4, unhide HX4, (unhide HY4).cells.1, (unhide HY4).cells.2.1, (unhide HY4).cells.2.2.1, (unhide HZ4).cells.1, (unhide HZ4).cells.2.1, (unhide HZ4).cells.2.2.1⟩
  have H0' : Hid ((fun w' => Below w.heap.size w w' ∧ Bk w' w.heap.size (.int .i64 0) (.int .i64 0) (.int .i64 0) 23 ∧ w'.cell? ⟨b, 0, none⟩ = some (.int .i64 9) ∧ w'.cell? ⟨b, 1, none⟩ = some (.int .i64 G) ∧ w'.cell? ⟨b, 2, none⟩ = some (.string P) ∧ w'.cell? ⟨c, 0, none⟩ = some (.int .i64 g) ∧ w'.cell? ⟨c, 1, none⟩ = some (.int .i64 r) ∧ w'.cell? ⟨c, 2, none⟩ = some (.int .i64 s)) w4.drew) := unhide KP _ _ (unhide H0) (Below.refl _ _).drew
  clear HB4 HX4 HY4 HZ4 HT H1 H2
  go_region_held3 (fun w' => Below w.heap.size w w' ∧ Bk w' w.heap.size (.int .i64 0) (.int .i64 0) (.int .i64 0) 23 ∧ w'.cell? ⟨b, 0, none⟩ = some (.int .i64 9) ∧ w'.cell? ⟨b, 1, none⟩ = some (.int .i64 G) ∧ w'.cell? ⟨b, 2, none⟩ = some (.string P) ∧ w'.cell? ⟨c, 0, none⟩ = some (.int .i64 g) ∧ w'.cell? ⟨c, 1, none⟩ = some (.int .i64 r) ∧ w'.cell? ⟨c, 2, none⟩ = some (.int .i64 s))
    (first | assumption | exact unhide H0')
    (first
      | (go_at_call 18; refine (unhide H3 _).mono ?_; rintro e w5 ⟨rfl, hb⟩; have H5 := unhide KP _ _ (by first | assumption | exact unhide H0') hb; clear hb)
      | (go_at_call 20; refine (unhide H4 _).mono ?_; rintro e w6 ⟨rfl, hb⟩; have HF := unhide KP _ _ (by first | assumption | exact unhide H0') hb; clear hb))
  obtain ⟨hb, hx, _⟩ := HF
  have HB := hide hb
  obtain ⟨d0, d1, d2, df⟩ := hx.cells
  clear hb hx KP H0 H0'
  go_wp2
  refine bodyPost_ret (v := sopened (0, 0, 0, 101)) ?_ rfl ⟨rfl, ?_⟩
  · rw [results_cell_tmp rfl]
    go_simp <;> rfl
  · exact below_set (below_set (below_set (unhide HB) (Nat.le_refl _)) (Nat.le_refl _)) (Nat.le_refl _)

set_option maxRecDepth 10000 in
set_option maxHeartbeats 2000000 in
theorem sopen_p (t : ByteArray) (K G : Int) (P : ByteArray) (w : World) (hT : Tab w) (ho : openR t = (K, G, P, 0)) (hP : P.size ≤ 1007) (g r s : Int) (hg : sg P = g) (hr : sr P = r) (hs : ss P = s) (hm : MayB g r s) (hx : ¬ P = spay r.toNat s.toNat g.toNat) (h9 : K = 9) (h8 : G = g) :
    Calls Tryd.prog 14 #[.string t] w fun e w' => e = .returned (sopened (0, 0, 0, 101)) ∧ Below w.heap.size w w' := by
  have h1 := fun W (hW : Tab W) => open_any t W hW
  rw [ho] at h1
  have h2 := fun W => sread_any P W (by omega)
  have h2' : ∀ W, Calls Tryd.prog 25 #[.string P] W fun e w' => e = .returned (.agg #[.int .i64 (sg P), .int .i64 (sr P), .int .i64 (ss P)]) ∧ Below W.heap.size W w' := h2
  rw [hg, hr, hs] at h2'
  have h3 := fun W => maybe_any g r s W
  rw [decide_eq_true hm] at h3
  have h4 : ∀ W, Calls Tryd.prog 20 #[.agg #[.int .i64 g, .int .i64 r, .int .i64 s]] W fun e w' => e = .returned (.agg #[.int .i64 9, .int .i64 g, .string (spay r.toNat s.toNat g.toNat)]) ∧ Below W.heap.size W w' := by
    obtain ⟨⟨a1, a2⟩, ⟨a3, a4⟩, a5⟩ := hm
    obtain ⟨g, rfl⟩ := Int.eq_ofNat_of_zero_le a1
    obtain ⟨r, rfl⟩ := Int.eq_ofNat_of_zero_le (show 0 ≤ r by omega)
    obtain ⟨s, rfl⟩ := Int.eq_ofNat_of_zero_le (show 0 ≤ s by omega)
    intro W
    exact blockof_any g r s W (by omega) (by omega) (by omega)
  have H4 := hide h4
  clear h4
  have H1 := hide h1
  have H2 := hide h2'
  have H3 := hide h3
  have HT := hide hT
  clear h1 h2 h2' h3 hT ho hP hg hr hs
  clear hm
  subst h9 h8
  generalize spay r.toNat s.toNat G.toNat = Q at *
  have k0 := str_ne hx
  clear hx
  go_enter Tryd.func14, Tryd.ntmps14
  go_wp2_with fail
  have HB0 := hide (b_alloc w (.cells #[.int .i64 0, .int .i64 0, .int .i64 0] 23))
  have HX0 := hide (Bk.new w (.int .i64 0) (.int .i64 0) (.int .i64 0) 23)
  generalize w.alloc (.cells #[.int .i64 0, .int .i64 0, .int .i64 0] 23) = w0 at *
  refine (unhide H1 _ ((unhide HT).below (unhide HB0))).mono ?_
  unfold opened
  rintro e w1 ⟨rfl, hb⟩
  have HB1 := hide (below_then (unhide HB0) hb)
  have HX1 := hide ((unhide HX0).then hb)
  clear hb HB0 HX0
  go_wp2_with fail
  have HB2 := hide (below_then (unhide HB1) (b_alloc w1 (.cells #[.int .i64 9, .int .i64 G, .string P] 33)))
  have HX2 := hide ((unhide HX1).then (b_alloc w1 (.cells #[.int .i64 9, .int .i64 G, .string P] 33)))
  have HY2 := hide (Bk.new w1 (.int .i64 9) (.int .i64 G) (.string P) 33)
  obtain ⟨b, hbe⟩ : ∃ b, b = w1.heap.size := ⟨_, rfl⟩
  rw [← hbe] at HY2 ⊢
  generalize w1.alloc (.cells #[.int .i64 9, .int .i64 G, .string P] 33) = w2 at *
  clear hbe HB1 HX1
  refine (unhide H2 w2).mono ?_
  rintro e w3 ⟨rfl, hb⟩
  have HB3 := hide (below_then (unhide HB2) hb)
  have HX3 := hide ((unhide HX2).then hb)
  have HY3 := hide ((unhide HY2).then hb)
  clear hb HB2 HX2 HY2
  go_wp2_with fail
  have HB4 := hide (below_then (unhide HB3) (b_alloc w3 (.cells #[.int .i64 G, .int .i64 r, .int .i64 s] 23)))
  have HX4 := hide ((unhide HX3).then (b_alloc w3 (.cells #[.int .i64 G, .int .i64 r, .int .i64 s] 23)))
  have HY4 := hide ((unhide HY3).then (b_alloc w3 (.cells #[.int .i64 G, .int .i64 r, .int .i64 s] 23)))
  have HZ4 := hide (Bk.new w3 (.int .i64 G) (.int .i64 r) (.int .i64 s) 23)
  obtain ⟨c, hce⟩ : ∃ c, c = w3.heap.size := ⟨_, rfl⟩
  rw [← hce] at HZ4 ⊢
  generalize w3.alloc (.cells #[.int .i64 G, .int .i64 r, .int .i64 s] 23) = w4 at *
  clear hce HB3 HX3 HY3
  have KP : Hid (∀ wa wb, (fun w' => Below w.heap.size w w' ∧ Bk w' w.heap.size (.int .i64 0) (.int .i64 0) (.int .i64 0) 23 ∧ w'.cell? ⟨b, 0, none⟩ = some (.int .i64 9) ∧ w'.cell? ⟨b, 1, none⟩ = some (.int .i64 G) ∧ w'.cell? ⟨b, 2, none⟩ = some (.string P) ∧ w'.cell? ⟨c, 0, none⟩ = some (.int .i64 G) ∧ w'.cell? ⟨c, 1, none⟩ = some (.int .i64 r) ∧ w'.cell? ⟨c, 2, none⟩ = some (.int .i64 s)) wa → Below wa.heap.size wa wb → (fun w' => Below w.heap.size w w' ∧ Bk w' w.heap.size (.int .i64 0) (.int .i64 0) (.int .i64 0) 23 ∧ w'.cell? ⟨b, 0, none⟩ = some (.int .i64 9) ∧ w'.cell? ⟨b, 1, none⟩ = some (.int .i64 G) ∧ w'.cell? ⟨b, 2, none⟩ = some (.string P) ∧ w'.cell? ⟨c, 0, none⟩ = some (.int .i64 G) ∧ w'.cell? ⟨c, 1, none⟩ = some (.int .i64 r) ∧ w'.cell? ⟨c, 2, none⟩ = some (.int .i64 s)) wb) := fun wa wb h hb =>
    ⟨below_then h.1 hb, h.2.1.then hb, (hb.cell (World.block_lt_of_cell? wa _ h.2.2.1)).trans h.2.2.1, (hb.cell (World.block_lt_of_cell? wa _ h.2.2.2.1)).trans h.2.2.2.1, (hb.cell (World.block_lt_of_cell? wa _ h.2.2.2.2.1)).trans h.2.2.2.2.1,
      (hb.cell (World.block_lt_of_cell? wa _ h.2.2.2.2.2.1)).trans h.2.2.2.2.2.1, (hb.cell (World.block_lt_of_cell? wa _ h.2.2.2.2.2.2.1)).trans h.2.2.2.2.2.2.1, (hb.cell (World.block_lt_of_cell? wa _ h.2.2.2.2.2.2.2)).trans h.2.2.2.2.2.2.2⟩
  have H0 : Hid ((fun w' => Below w.heap.size w w' ∧ Bk w' w.heap.size (.int .i64 0) (.int .i64 0) (.int .i64 0) 23 ∧ w'.cell? ⟨b, 0, none⟩ = some (.int .i64 9) ∧ w'.cell? ⟨b, 1, none⟩ = some (.int .i64 G) ∧ w'.cell? ⟨b, 2, none⟩ = some (.string P) ∧ w'.cell? ⟨c, 0, none⟩ = some (.int .i64 G) ∧ w'.cell? ⟨c, 1, none⟩ = some (.int .i64 r) ∧ w'.cell? ⟨c, 2, none⟩ = some (.int .i64 s)) w4) := ⟨unhide HB4, unhide HX4, (unhide HY4).cells.1, (unhide HY4).cells.2.1, (unhide HY4).cells.2.2.1, (unhide HZ4).cells.1, (unhide HZ4).cells.2.1, (unhide HZ4).cells.2.2.1⟩
  have H0' : Hid ((fun w' => Below w.heap.size w w' ∧ Bk w' w.heap.size (.int .i64 0) (.int .i64 0) (.int .i64 0) 23 ∧ w'.cell? ⟨b, 0, none⟩ = some (.int .i64 9) ∧ w'.cell? ⟨b, 1, none⟩ = some (.int .i64 G) ∧ w'.cell? ⟨b, 2, none⟩ = some (.string P) ∧ w'.cell? ⟨c, 0, none⟩ = some (.int .i64 G) ∧ w'.cell? ⟨c, 1, none⟩ = some (.int .i64 r) ∧ w'.cell? ⟨c, 2, none⟩ = some (.int .i64 s)) w4.drew) := unhide KP _ _ (unhide H0) (Below.refl _ _).drew
  clear HB4 HX4 HY4 HZ4 HT H1 H2
  go_region_held3 (fun w' => Below w.heap.size w w' ∧ Bk w' w.heap.size (.int .i64 0) (.int .i64 0) (.int .i64 0) 23 ∧ w'.cell? ⟨b, 0, none⟩ = some (.int .i64 9) ∧ w'.cell? ⟨b, 1, none⟩ = some (.int .i64 G) ∧ w'.cell? ⟨b, 2, none⟩ = some (.string P) ∧ w'.cell? ⟨c, 0, none⟩ = some (.int .i64 G) ∧ w'.cell? ⟨c, 1, none⟩ = some (.int .i64 r) ∧ w'.cell? ⟨c, 2, none⟩ = some (.int .i64 s))
    (first | assumption | exact unhide H0')
    (first
      | (go_at_call 18; refine (unhide H3 _).mono ?_; rintro e w5 ⟨rfl, hb⟩; have H5 := unhide KP _ _ (by first | assumption | exact unhide H0') hb; clear hb)
      | (go_at_call 20; refine (unhide H4 _).mono ?_; rintro e w6 ⟨rfl, hb⟩; have HF := unhide KP _ _ (by first | assumption | exact unhide H0') hb; clear hb))
  obtain ⟨hb, hx, _⟩ := HF
  have HB := hide hb
  obtain ⟨d0, d1, d2, df⟩ := hx.cells
  clear hb hx KP H0 H0'
  go_wp2
  refine bodyPost_ret (v := sopened (0, 0, 0, 101)) ?_ rfl ⟨rfl, ?_⟩
  · rw [results_cell_tmp rfl]
    go_simp <;> rfl
  · exact below_set (below_set (below_set (unhide HB) (Nat.le_refl _)) (Nat.le_refl _)) (Nat.le_refl _)

set_option maxRecDepth 10000 in
set_option maxHeartbeats 2000000 in
theorem sopen_yes (t : ByteArray) (K G : Int) (P : ByteArray) (w : World) (hT : Tab w) (ho : openR t = (K, G, P, 0)) (hP : P.size ≤ 1007) (g r s : Int) (hg : sg P = g) (hr : sr P = r) (hs : ss P = s) (hm : MayB g r s) (hx : P = spay r.toNat s.toNat g.toNat) (h9 : K = 9) (h8 : G = g) :
    Calls Tryd.prog 14 #[.string t] w fun e w' => e = .returned (sopened (g, r, s, 0)) ∧ Below w.heap.size w w' := by
  have h1 := fun W (hW : Tab W) => open_any t W hW
  rw [ho] at h1
  have h2 := fun W => sread_any P W (by omega)
  have h2' : ∀ W, Calls Tryd.prog 25 #[.string P] W fun e w' => e = .returned (.agg #[.int .i64 (sg P), .int .i64 (sr P), .int .i64 (ss P)]) ∧ Below W.heap.size W w' := h2
  rw [hg, hr, hs] at h2'
  have h3 := fun W => maybe_any g r s W
  rw [decide_eq_true hm] at h3
  have h4 : ∀ W, Calls Tryd.prog 20 #[.agg #[.int .i64 g, .int .i64 r, .int .i64 s]] W fun e w' => e = .returned (.agg #[.int .i64 9, .int .i64 g, .string (spay r.toNat s.toNat g.toNat)]) ∧ Below W.heap.size W w' := by
    obtain ⟨⟨a1, a2⟩, ⟨a3, a4⟩, a5⟩ := hm
    obtain ⟨g, rfl⟩ := Int.eq_ofNat_of_zero_le a1
    obtain ⟨r, rfl⟩ := Int.eq_ofNat_of_zero_le (show 0 ≤ r by omega)
    obtain ⟨s, rfl⟩ := Int.eq_ofNat_of_zero_le (show 0 ≤ s by omega)
    intro W
    exact blockof_any g r s W (by omega) (by omega) (by omega)
  have H4 := hide h4
  clear h4
  have H1 := hide h1
  have H2 := hide h2'
  have H3 := hide h3
  have HT := hide hT
  clear h1 h2 h2' h3 hT ho hP hg hr hs
  clear hm
  subst h9 h8
  rw [← hx] at H4
  clear hx
  go_enter Tryd.func14, Tryd.ntmps14
  go_wp2_with fail
  have HB0 := hide (b_alloc w (.cells #[.int .i64 0, .int .i64 0, .int .i64 0] 23))
  have HX0 := hide (Bk.new w (.int .i64 0) (.int .i64 0) (.int .i64 0) 23)
  generalize w.alloc (.cells #[.int .i64 0, .int .i64 0, .int .i64 0] 23) = w0 at *
  refine (unhide H1 _ ((unhide HT).below (unhide HB0))).mono ?_
  unfold opened
  rintro e w1 ⟨rfl, hb⟩
  have HB1 := hide (below_then (unhide HB0) hb)
  have HX1 := hide ((unhide HX0).then hb)
  clear hb HB0 HX0
  go_wp2_with fail
  have HB2 := hide (below_then (unhide HB1) (b_alloc w1 (.cells #[.int .i64 9, .int .i64 G, .string P] 33)))
  have HX2 := hide ((unhide HX1).then (b_alloc w1 (.cells #[.int .i64 9, .int .i64 G, .string P] 33)))
  have HY2 := hide (Bk.new w1 (.int .i64 9) (.int .i64 G) (.string P) 33)
  obtain ⟨b, hbe⟩ : ∃ b, b = w1.heap.size := ⟨_, rfl⟩
  rw [← hbe] at HY2 ⊢
  generalize w1.alloc (.cells #[.int .i64 9, .int .i64 G, .string P] 33) = w2 at *
  clear hbe HB1 HX1
  refine (unhide H2 w2).mono ?_
  rintro e w3 ⟨rfl, hb⟩
  have HB3 := hide (below_then (unhide HB2) hb)
  have HX3 := hide ((unhide HX2).then hb)
  have HY3 := hide ((unhide HY2).then hb)
  clear hb HB2 HX2 HY2
  go_wp2_with fail
  have HB4 := hide (below_then (unhide HB3) (b_alloc w3 (.cells #[.int .i64 G, .int .i64 r, .int .i64 s] 23)))
  have HX4 := hide ((unhide HX3).then (b_alloc w3 (.cells #[.int .i64 G, .int .i64 r, .int .i64 s] 23)))
  have HY4 := hide ((unhide HY3).then (b_alloc w3 (.cells #[.int .i64 G, .int .i64 r, .int .i64 s] 23)))
  have HZ4 := hide (Bk.new w3 (.int .i64 G) (.int .i64 r) (.int .i64 s) 23)
  obtain ⟨c, hce⟩ : ∃ c, c = w3.heap.size := ⟨_, rfl⟩
  rw [← hce] at HZ4 ⊢
  generalize w3.alloc (.cells #[.int .i64 G, .int .i64 r, .int .i64 s] 23) = w4 at *
  clear hce HB3 HX3 HY3
  have KP : Hid (∀ wa wb, (fun w' => Below w.heap.size w w' ∧ Bk w' w.heap.size (.int .i64 0) (.int .i64 0) (.int .i64 0) 23 ∧ w'.cell? ⟨b, 0, none⟩ = some (.int .i64 9) ∧ w'.cell? ⟨b, 1, none⟩ = some (.int .i64 G) ∧ w'.cell? ⟨b, 2, none⟩ = some (.string P) ∧ w'.cell? ⟨c, 0, none⟩ = some (.int .i64 G) ∧ w'.cell? ⟨c, 1, none⟩ = some (.int .i64 r) ∧ w'.cell? ⟨c, 2, none⟩ = some (.int .i64 s)) wa → Below wa.heap.size wa wb → (fun w' => Below w.heap.size w w' ∧ Bk w' w.heap.size (.int .i64 0) (.int .i64 0) (.int .i64 0) 23 ∧ w'.cell? ⟨b, 0, none⟩ = some (.int .i64 9) ∧ w'.cell? ⟨b, 1, none⟩ = some (.int .i64 G) ∧ w'.cell? ⟨b, 2, none⟩ = some (.string P) ∧ w'.cell? ⟨c, 0, none⟩ = some (.int .i64 G) ∧ w'.cell? ⟨c, 1, none⟩ = some (.int .i64 r) ∧ w'.cell? ⟨c, 2, none⟩ = some (.int .i64 s)) wb) := fun wa wb h hb =>
    ⟨below_then h.1 hb, h.2.1.then hb, (hb.cell (World.block_lt_of_cell? wa _ h.2.2.1)).trans h.2.2.1, (hb.cell (World.block_lt_of_cell? wa _ h.2.2.2.1)).trans h.2.2.2.1, (hb.cell (World.block_lt_of_cell? wa _ h.2.2.2.2.1)).trans h.2.2.2.2.1,
      (hb.cell (World.block_lt_of_cell? wa _ h.2.2.2.2.2.1)).trans h.2.2.2.2.2.1, (hb.cell (World.block_lt_of_cell? wa _ h.2.2.2.2.2.2.1)).trans h.2.2.2.2.2.2.1, (hb.cell (World.block_lt_of_cell? wa _ h.2.2.2.2.2.2.2)).trans h.2.2.2.2.2.2.2⟩
  have H0 : Hid ((fun w' => Below w.heap.size w w' ∧ Bk w' w.heap.size (.int .i64 0) (.int .i64 0) (.int .i64 0) 23 ∧ w'.cell? ⟨b, 0, none⟩ = some (.int .i64 9) ∧ w'.cell? ⟨b, 1, none⟩ = some (.int .i64 G) ∧ w'.cell? ⟨b, 2, none⟩ = some (.string P) ∧ w'.cell? ⟨c, 0, none⟩ = some (.int .i64 G) ∧ w'.cell? ⟨c, 1, none⟩ = some (.int .i64 r) ∧ w'.cell? ⟨c, 2, none⟩ = some (.int .i64 s)) w4) := ⟨unhide HB4, unhide HX4, (unhide HY4).cells.1, (unhide HY4).cells.2.1, (unhide HY4).cells.2.2.1, (unhide HZ4).cells.1, (unhide HZ4).cells.2.1, (unhide HZ4).cells.2.2.1⟩
  have H0' : Hid ((fun w' => Below w.heap.size w w' ∧ Bk w' w.heap.size (.int .i64 0) (.int .i64 0) (.int .i64 0) 23 ∧ w'.cell? ⟨b, 0, none⟩ = some (.int .i64 9) ∧ w'.cell? ⟨b, 1, none⟩ = some (.int .i64 G) ∧ w'.cell? ⟨b, 2, none⟩ = some (.string P) ∧ w'.cell? ⟨c, 0, none⟩ = some (.int .i64 G) ∧ w'.cell? ⟨c, 1, none⟩ = some (.int .i64 r) ∧ w'.cell? ⟨c, 2, none⟩ = some (.int .i64 s)) w4.drew) := unhide KP _ _ (unhide H0) (Below.refl _ _).drew
  clear HB4 HX4 HY4 HZ4 HT H1 H2
  go_region_held3 (fun w' => Below w.heap.size w w' ∧ Bk w' w.heap.size (.int .i64 0) (.int .i64 0) (.int .i64 0) 23 ∧ w'.cell? ⟨b, 0, none⟩ = some (.int .i64 9) ∧ w'.cell? ⟨b, 1, none⟩ = some (.int .i64 G) ∧ w'.cell? ⟨b, 2, none⟩ = some (.string P) ∧ w'.cell? ⟨c, 0, none⟩ = some (.int .i64 G) ∧ w'.cell? ⟨c, 1, none⟩ = some (.int .i64 r) ∧ w'.cell? ⟨c, 2, none⟩ = some (.int .i64 s))
    (first | assumption | exact unhide H0')
    (first
      | (go_at_call 18; refine (unhide H3 _).mono ?_; rintro e w5 ⟨rfl, hb⟩; have H5 := unhide KP _ _ (by first | assumption | exact unhide H0') hb; clear hb)
      | (go_at_call 20; refine (unhide H4 _).mono ?_; rintro e w6 ⟨rfl, hb⟩; have HF := unhide KP _ _ (by first | assumption | exact unhide H0') hb; clear hb))
  obtain ⟨hb, hx, _⟩ := HF
  have HB := hide hb
  obtain ⟨d0, d1, d2, df⟩ := hx.cells
  clear hb hx KP H0 H0'
  go_wp2
  refine bodyPost_ret (v := sopened (G, r, s, 0)) ?_ rfl ⟨rfl, ?_⟩
  · rw [results_cell_tmp rfl]
    go_simp <;> rfl
  · exact below_set (below_set (below_set (unhide HB) (Nat.le_refl _)) (Nat.le_refl _)) (Nat.le_refl _)
end Go.Proofs.YtdkgifjmahkiaaaDoor
