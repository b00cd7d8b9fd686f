/- The walk of the law SuperNewer, where all three supers have a sector. -/
import Derived.Test.YtdkgifjmahkiaaaDoorLn
import Derived.ChangeKeysEq
namespace Go.Proofs.YtdkgifjmahkiaaaDoor
open Go.ChangeShapes Go.WideShapes Go.ChangeAt Go.RowKit
open L4

theorem info9 : (Tryd.prog.info? 9).map (fun i => (i.zero, i.size, i.bytes)) = some (some (.string ⟨#[]⟩), 1, 16) := by kernel_rfl
theorem cells9 : Tryd.prog.cellsOf 9 = 1 := by kernel_rfl
theorem plain9 : Tryd.prog.plainKey 9 = true := by kernel_rfl
theorem str_eq' (x : ByteArray) : (x == x) = true := by
  rcases x with ⟨d⟩
  first
    | exact beq_self_eq_true d
    | (show (d == d) = true; exact beq_self_eq_true d)
    | (simp only [BEq.beq, ByteArray.instBEq.beq]; exact beq_self_eq_true d)
    | (unfold BEq.beq; simp [ByteArray.instBEq]; done)
theorem eqStr (x : ByteArray) (d : Nat) (w : World) : (Op.equalIn (d + 1) 9 (.string x) (.string x)).run Tryd.prog w = .ok true w := by
  simp only [Op.equalIn, Sem.run_bind, run_underlying Tryd.underlying9, Result.andThen_ok]
  simp [str_eq' x]
theorem eqAr (x y : ByteArray) (w : World) : (Op.equalIn 10000 45 (.agg #[.string x, .string y]) (.agg #[.string x, .string y])).run Tryd.prog w = .ok true w := by
  obtain ⟨i, hi, _, hs, _⟩ := info_parts info9
  have h := run_equalIn_array (P := Tryd.prog) w 9999 (t := 45) (e := 9) (n := 2) #[.string x, .string y] #[.string x, .string y] Tryd.underlying45 hi
  rw [show (9999 + 1 : Nat) = 10000 from rfl] at h
  rw [h, cells9, show List.range 2 = [0, 1] from rfl]
  have e9 : ∀ (z : ByteArray) w, (Op.equalIn 9999 9 (.string z) (.string z)).run Tryd.prog w = .ok true w := fun z w => eqStr z 9998 w
  have p0 := fun w => run_part_plain (P := Tryd.prog) (w := w) plain9 (xs := #[.string x, .string y]) (off := 0 * 1) (v := .string x) rfl
  have p1 := fun w => run_part_plain (P := Tryd.prog) (w := w) plain9 (xs := #[.string x, .string y]) (off := 1 * 1) (v := .string y) rfl
  simp only [Op.eqItems, Sem.run_bind, p0, Result.andThen_ok, e9]
  simp [p1, e9]

/-- an array of two texts -/
def Ar (w : World) (b : Nat) (x y : ByteArray) : Prop := w.heap[b]? = some (.cells #[.string x, .string y] 45 (0, 0))
theorem Ar.lt {w : World} {b : Nat} {x y : ByteArray} (h : Ar w b x y) : b < w.heap.size := (Array.getElem?_eq_some_iff.1 h).1
theorem Ar.then {w w' : World} {b : Nat} {x y : ByteArray} (h : Ar w b x y) (hb : Below w.heap.size w w') : Ar w' b x y := (hb.block b h.lt).trans h
theorem Ar.cells {w : World} {b : Nat} {x y : ByteArray} (h : Ar w b x y) : w.cell? ⟨b, 0, none⟩ = some (.string x) ∧ w.cell? ⟨b, 1, none⟩ = some (.string y) ∧ ∀ i, w.frozen? ⟨b, i, none⟩ = false := by
  unfold Ar at h
  refine ⟨?_, ?_, fun i => ?_⟩
  · simp [World.cell?, h]
  · simp [World.cell?, h]
  · simp [World.frozen?, h]
theorem Ar.new (w : World) (x y : ByteArray) : Ar (w.alloc (.cells #[.string x, .string y] 45)) w.heap.size x y := heap_alloc_new w _
theorem Ar.set0 {w : World} {b : Nat} {x y : ByteArray} (h : Ar w b x y) (v : ByteArray) : Ar (w.setCell ⟨b, 0, none⟩ (.string v)) b v y := by
  unfold Ar at *
  simp [World.setCell, Array.getElem?_modify, h]
theorem Ar.set1 {w : World} {b : Nat} {x y : ByteArray} (h : Ar w b x y) (v : ByteArray) : Ar (w.setCell ⟨b, 1, none⟩ (.string v)) b x v := by
  unfold Ar at *
  simp [World.setCell, Array.getElem?_modify, h]
theorem Ar.other {w : World} {b : Nat} {x y : ByteArray} (h : Ar w b x y) (p i : Nat) (v : Value) (hp : b ≠ p) : Ar (w.setCell ⟨p, i, none⟩ v) b x y := by
  unfold Ar at *
  simp [World.setCell, Array.getElem?_modify, h, Ne.symm hp]
/-- what there is: the super, the newer one, the two pairs of slots -/
def Mz (w wc : World) (p a : Nat) (G R S G1 R1 S1 : Int) (x y x' y' : ByteArray) : Prop := Below w.heap.size w wc ∧ Bk wc w.heap.size (.int .i64 G) (.int .i64 R) (.int .i64 S) 23 ∧ Bk wc p (.int .i64 G1) (.int .i64 R1) (.int .i64 S1) 23 ∧ Ar wc a x y ∧ Ar wc (a + 1) x' y' ∧ w.heap.size < p ∧ p < a
theorem Mz.then {w wc wd : World} {p a : Nat} {G R S G1 R1 S1 : Int} {x y x' y' : ByteArray} (h : Mz w wc p a G R S G1 R1 S1 x y x' y') (hb : Below wc.heap.size wc wd) : Mz w wd p a G R S G1 R1 S1 x y x' y' :=
  ⟨below_then h.1 hb, h.2.1.then hb, h.2.2.1.then hb, h.2.2.2.1.then hb, h.2.2.2.2.1.then hb, h.2.2.2.2.2⟩
theorem Mz.new {w wc : World} {p : Nat} {G R S G1 R1 S1 : Int} (s : ByteArray) (h1 : Below w.heap.size w wc) (h2 : Bk wc w.heap.size (.int .i64 G) (.int .i64 R) (.int .i64 S) 23) (h3 : Bk wc p (.int .i64 G1) (.int .i64 R1) (.int .i64 S1) 23) (hp : w.heap.size < p) :
    Mz w ((wc.alloc (.cells #[.string s, .string s] 45)).alloc (.cells #[.string s, .string s] 45)) p wc.heap.size G R S G1 R1 S1 s s s s := by
  have e : (wc.alloc (.cells #[.string s, .string s] 45)).heap.size = wc.heap.size + 1 := by simp
  have h5 := Ar.new (wc.alloc (.cells #[.string s, .string s] 45)) s s
  rw [e] at h5
  exact ⟨below_then (below_then h1 (b_alloc _ _)) (b_alloc _ _), (h2.then (b_alloc _ _)).then (b_alloc _ _), (h3.then (b_alloc _ _)).then (b_alloc _ _), (Ar.new _ _ _).then (b_alloc _ _), h5, hp, h3.lt⟩
theorem Mz.a0 {w wc : World} {p a : Nat} {G R S G1 R1 S1 : Int} {x y x' y' : ByteArray} (h : Mz w wc p a G R S G1 R1 S1 x y x' y') (v : ByteArray) : Mz w (wc.setCell ⟨a, 0, none⟩ (.string v)) p a G R S G1 R1 S1 v y x' y' := by
  obtain ⟨h1, h2, h3, h4, h5, h6, h7⟩ := h
  exact ⟨below_set h1 (by show w.heap.size ≤ a; omega), h2.other _ _ _ (by omega), h3.other _ _ _ (by omega), h4.set0 v, h5.other _ _ _ (by omega), h6, h7⟩
theorem Mz.a1 {w wc : World} {p a : Nat} {G R S G1 R1 S1 : Int} {x y x' y' : ByteArray} (h : Mz w wc p a G R S G1 R1 S1 x y x' y') (v : ByteArray) : Mz w (wc.setCell ⟨a, 1, none⟩ (.string v)) p a G R S G1 R1 S1 x v x' y' := by
  obtain ⟨h1, h2, h3, h4, h5, h6, h7⟩ := h
  exact ⟨below_set h1 (by show w.heap.size ≤ a; omega), h2.other _ _ _ (by omega), h3.other _ _ _ (by omega), h4.set1 v, h5.other _ _ _ (by omega), h6, h7⟩
theorem Mz.b0 {w wc : World} {p a : Nat} {G R S G1 R1 S1 : Int} {x y x' y' : ByteArray} (h : Mz w wc p a G R S G1 R1 S1 x y x' y') (v : ByteArray) : Mz w (wc.setCell ⟨a + 1, 0, none⟩ (.string v)) p a G R S G1 R1 S1 x y v y' := by
  obtain ⟨h1, h2, h3, h4, h5, h6, h7⟩ := h
  exact ⟨below_set h1 (by show w.heap.size ≤ a + 1; omega), h2.other _ _ _ (by omega), h3.other _ _ _ (by omega), h4.other _ _ _ (by omega), h5.set0 v, h6, h7⟩
theorem Mz.b1 {w wc : World} {p a : Nat} {G R S G1 R1 S1 : Int} {x y x' y' : ByteArray} (h : Mz w wc p a G R S G1 R1 S1 x y x' y') (v : ByteArray) : Mz w (wc.setCell ⟨a + 1, 1, none⟩ (.string v)) p a G R S G1 R1 S1 x y x' v := by
  obtain ⟨h1, h2, h3, h4, h5, h6, h7⟩ := h
  exact ⟨below_set h1 (by show w.heap.size ≤ a + 1; omega), h2.other _ _ _ (by omega), h3.other _ _ _ (by omega), h4.other _ _ _ (by omega), h5.set1 v, h6, h7⟩
theorem Mz.facts {w wc : World} {p a : Nat} {G R S G1 R1 S1 : Int} {x y x' y' : ByteArray} (h : Mz w wc p a G R S G1 R1 S1 x y x' y') : wc.cell? ⟨w.heap.size, 0, none⟩ = some (.int .i64 G) ∧ wc.cell? ⟨w.heap.size, 1, none⟩ = some (.int .i64 R) ∧ wc.cell? ⟨w.heap.size, 2, none⟩ = some (.int .i64 S) ∧
    wc.cell? ⟨p, 0, none⟩ = some (.int .i64 G1) ∧ wc.cell? ⟨p, 1, none⟩ = some (.int .i64 R1) ∧ wc.cell? ⟨p, 2, none⟩ = some (.int .i64 S1) ∧ wc.cell? ⟨a, 0, none⟩ = some (.string x) ∧ wc.cell? ⟨a, 1, none⟩ = some (.string y) ∧ wc.cell? ⟨a + 1, 0, none⟩ = some (.string x') ∧ wc.cell? ⟨a + 1, 1, none⟩ = some (.string y') ∧
    (∀ i, wc.frozen? ⟨a, i, none⟩ = false) ∧ ∀ i, wc.frozen? ⟨a + 1, i, none⟩ = false :=
  ⟨h.2.1.cells.1, h.2.1.cells.2.1, h.2.1.cells.2.2.1, h.2.2.1.cells.1, h.2.2.1.cells.2.1, h.2.2.1.cells.2.2.1, h.2.2.2.1.cells.1, h.2.2.2.1.cells.2.1, h.2.2.2.2.1.cells.1, h.2.2.2.2.1.cells.2.1, h.2.2.2.1.cells.2.2, h.2.2.2.2.1.cells.2.2⟩

set_option maxRecDepth 10000 in
set_option maxHeartbeats 2000000 in
theorem snewer_m1s (G R S root cut : Int) (w : World) (hT : Tab w) (hc : 1 ≤ G) (hd : G < 1152921504606846976) (c : Nat) (hcut : cut = (c : Int)) (he : c ≤ 1024) (s n m : ByteArray) (h1 : swrapR G R S = (s, 0)) (h2 : swrapR (G + 1) root S = (n, 0)) (h3 : swrapR (G - 1) R S = (m, 0)) (z2 : n.size = 1024) (z3 : m.size = 1024) (hp : bits .and .i64 (G + 1) 1 = 1) (u : ByteArray) (hu : n.extract 0 c ++ m.extract c 1024 = u) (h4 : chooseR s n = (G + 1, root, S, 0)) (h5 : chooseR s u = (G, R, S, 0)) : Calls Tryd.prog 8 #[.agg #[.int .i64 G, .int .i64 R, .int .i64 S], .int .i64 root, .int .i64 cut] w fun e w' => e = .returned (.bool true) ∧ Below w.heap.size w w' := by
  have hA := fun W (hW : Tab W) => awake_any W hW
  subst hcut
  have zc1 : ((n.extract 0 c).size : Int) ≤ 1024 := by rw [ByteArray.size_extract]; omega
  have ad : ∀ W, (Op.stringOp .add (n.extract 0 c) (m.extract c 1024)).run Tryd.prog W = .ok (.string u) W := fun W => by
    rw [← hu]
    exact add_run _ _ (by rw [ByteArray.size_extract, ByteArray.size_extract]; omega) W
  have k4 := fun W (hW : Tab W) => choose_any s n W hW
  rw [h4] at k4
  have k5 := fun W (hW : Tab W) => choose_any s u W hW
  rw [h5] at k5
  have k6 : ∀ W, Calls Tryd.prog 12 #[.int .i64 (G + 1)] W fun e w' => e = .returned (.int .i64 1) ∧ w' = W := fun W => by
    have h := slot_any (G + 1) W
    rw [hp] at h
    exact h
  have gg1 : ((G + 1) == G) = false := beq_eq_false_iff_ne.2 (by omega)
  have gg2 : (G == (G + 1)) = false := beq_eq_false_iff_ne.2 (by omega)
  have H4 := hide k4
  have H5 := hide k5
  have H6 := hide k6
  clear zc1 k4 k5 k6 h4 h5 hp hu
  have k1 := fun W (hW : Tab W) => swrap_any G R S W hW
  have k2 := fun W (hW : Tab W) => swrap_any (G + 1) root S W hW
  have k3 := fun W (hW : Tab W) => swrap_any (G - 1) R S W hW
  rw [h1] at k1
  rw [h2] at k2
  rw [h3] at k3
  have H1 := hide k1
  have H2 := hide k2
  have H3 := hide k3
  clear k1 k2 k3 h1 h2 h3
  have HT := hide hT
  have HA := hide hA
  clear hT hA
  go_enter Tryd.func8, Tryd.ntmps8
  go_wp2_with fail
  have HB0 := hide (b_alloc w (.cells #[.int .i64 G, .int .i64 R, .int .i64 S] 23))
  have X0 := hide (Bk.new w (.int .i64 G) (.int .i64 R) (.int .i64 S) 23)
  generalize w.alloc (.cells #[.int .i64 G, .int .i64 R, .int .i64 S] 23) = w0 at *
  refine (unhide HA _ ((unhide HT).below (unhide HB0))).mono ?_
  rintro e w1 ⟨rfl, hb⟩
  have HB1 := hide (below_then (unhide HB0) hb)
  have X0_1 := hide ((unhide X0).then hb)
  clear hb HB0 X0
  go_upto_region 3 with fail
  go_cut [7, 8] (fun s7 s8 wc => ∃ p q, s7 = .pointer (some ⟨p, 0, none⟩) ∧ s8 = .pointer (some ⟨q, 0, none⟩) ∧ Nw w wc p q G R S G R S G R S)
  case first =>
    have KP : Hid (∀ wa wb, (fun w' => Below w.heap.size w w' ∧ w'.cell? ⟨w.heap.size, 0, none⟩ = some (.int .i64 G) ∧ w'.cell? ⟨w.heap.size, 1, none⟩ = some (.int .i64 R) ∧ w'.cell? ⟨w.heap.size, 2, none⟩ = some (.int .i64 S)) wa → Below wa.heap.size wa wb → (fun w' => Below w.heap.size w w' ∧ w'.cell? ⟨w.heap.size, 0, none⟩ = some (.int .i64 G) ∧ w'.cell? ⟨w.heap.size, 1, none⟩ = some (.int .i64 R) ∧ w'.cell? ⟨w.heap.size, 2, none⟩ = some (.int .i64 S)) wb) := fun wa wb h hb => ⟨below_then h.1 hb, (hb.cell (World.block_lt_of_cell? wa _ h.2.1)).trans h.2.1, (hb.cell (World.block_lt_of_cell? wa _ h.2.2.1)).trans h.2.2.1, (hb.cell (World.block_lt_of_cell? wa _ h.2.2.2)).trans h.2.2.2⟩
    have H0 : Hid ((fun w' => Below w.heap.size w w' ∧ w'.cell? ⟨w.heap.size, 0, none⟩ = some (.int .i64 G) ∧ w'.cell? ⟨w.heap.size, 1, none⟩ = some (.int .i64 R) ∧ w'.cell? ⟨w.heap.size, 2, none⟩ = some (.int .i64 S)) w1.drew) := ⟨(unhide HB1).drew, (unhide X0_1).cells.1, (unhide X0_1).cells.2.1, (unhide X0_1).cells.2.2.1⟩
    have K1 : Hid (∀ o, (fun w' => Below w.heap.size w w' ∧ w'.cell? ⟨w.heap.size, 0, none⟩ = some (.int .i64 G) ∧ w'.cell? ⟨w.heap.size, 1, none⟩ = some (.int .i64 R) ∧ w'.cell? ⟨w.heap.size, 2, none⟩ = some (.int .i64 S)) (w1.alloc o).drew) := fun o => unhide KP _ _ (unhide H0) (b_alloc w1.drew o)
    have K2 : Hid (∀ o o', (fun w' => Below w.heap.size w w' ∧ w'.cell? ⟨w.heap.size, 0, none⟩ = some (.int .i64 G) ∧ w'.cell? ⟨w.heap.size, 1, none⟩ = some (.int .i64 R) ∧ w'.cell? ⟨w.heap.size, 2, none⟩ = some (.int .i64 S)) ((w1.alloc o).alloc o').drew) := fun o o' => unhide KP _ _ (unhide K1 o) (b_alloc (w1.alloc o).drew o')
    have KT := hide (Nw.two (unhide HB1) (unhide X0_1))
    go_region_held3 (fun w' => Below w.heap.size w w' ∧ w'.cell? ⟨w.heap.size, 0, none⟩ = some (.int .i64 G) ∧ w'.cell? ⟨w.heap.size, 1, none⟩ = some (.int .i64 R) ∧ w'.cell? ⟨w.heap.size, 2, none⟩ = some (.int .i64 S))
      (first | assumption | (exact unhide H0) | (exact unhide K1 _) | (exact unhide K2 _ _))
      (fail)
    all_goals (go_wp2_with fail; go_meet)
    · exact ⟨_, _, rfl, rfl, (unhide KT).1.then (Below.refl _ _).drew⟩
    · exact ⟨_, _, rfl, rfl, (unhide KT).2.then (Below.refl _ _).drew⟩
  case rest =>
  obtain ⟨p, q, rfl, rfl, hN⟩ := hcut
  have N0 := hide hN
  clear hN HB1 X0_1
  obtain ⟨_, p1, p2, pf⟩ := (unhide N0).2.2.1.cells
  have N1 := hide ((unhide N0).root root)
  obtain ⟨s0, s1, s2, _⟩ := (unhide N1).2.1.cells
  obtain ⟨r0, r1, r2, rf⟩ := (unhide N1).2.2.1.cells
  have N2 := hide ((unhide N1).gen (G + 1))
  obtain ⟨t0, t1, t2, _⟩ := (unhide N2).2.1.cells
  obtain ⟨q0, q1, q2, qf⟩ := (unhide N2).2.2.2.1.cells
  have N3 := hide ((unhide N2).gen' (G - 1))
  obtain ⟨u0, u1, u2, _⟩ := (unhide N3).2.1.cells
  go_wp2_with fail
  clear p1 p2 pf s0 s1 s2 r0 r1 r2 rf t0 t1 t2 q0 q1 q2 qf u0 u1 u2 N0 N1 N2
  generalize ((wc.setCell ⟨p, 1, none⟩ (.int .i64 root)).setCell ⟨p, 0, none⟩ (.int .i64 (G + 1))).setCell ⟨q, 0, none⟩ (.int .i64 (G - 1)) = wd at *
  obtain ⟨hb0, hx0, hx1, hx2, hp, hq, hpq⟩ := unhide N3
  have HBn := hide hb0
  have X0 := hide hx0
  have X1 := hide hx1
  have X2 := hide hx2
  have HPQ := hide (And.intro hp (And.intro hq hpq))
  clear N3 hb0 hx0 hx1 hx2 hp hq hpq
  refine (unhide H1 _ ((unhide HT).below (unhide HBn))).mono ?_
  unfold wrapped
  rintro e w2 ⟨rfl, hb⟩
  have HB2 := hide (below_then (unhide HBn) hb)
  have X0_2 := hide ((unhide X0).then hb)
  have X1_2 := hide ((unhide X1).then hb)
  have X2_2 := hide ((unhide X2).then hb)
  clear hb HBn X0 X1 X2
  obtain ⟨c00, c01, c02, _⟩ := (unhide X0_2).cells
  obtain ⟨c10, c11, c12, _⟩ := (unhide X1_2).cells
  obtain ⟨c20, c21, c22, _⟩ := (unhide X2_2).cells
  go_wp2_with fail
  clear c00 c01 c02 c10 c11 c12 c20 c21 c22
  refine (unhide H2 _ ((unhide HT).below (unhide HB2))).mono ?_
  unfold wrapped
  rintro e w3 ⟨rfl, hb⟩
  have HB3 := hide (below_then (unhide HB2) hb)
  have X0_3 := hide ((unhide X0_2).then hb)
  have X1_3 := hide ((unhide X1_2).then hb)
  have X2_3 := hide ((unhide X2_2).then hb)
  clear hb HB2 X0_2 X1_2 X2_2
  obtain ⟨c00, c01, c02, _⟩ := (unhide X0_3).cells
  obtain ⟨c10, c11, c12, _⟩ := (unhide X1_3).cells
  obtain ⟨c20, c21, c22, _⟩ := (unhide X2_3).cells
  go_wp2_with fail
  clear c00 c01 c02 c10 c11 c12 c20 c21 c22
  refine (unhide H3 _ ((unhide HT).below (unhide HB3))).mono ?_
  unfold wrapped
  rintro e w4 ⟨rfl, hb⟩
  have HB4 := hide (below_then (unhide HB3) hb)
  have X0_4 := hide ((unhide X0_3).then hb)
  have X1_4 := hide ((unhide X1_3).then hb)
  have X2_4 := hide ((unhide X2_3).then hb)
  clear hb HB3 X0_3 X1_3 X2_3
  have M0 := hide (Mz.new s (unhide HB4) (unhide X0_4) (unhide X1_4) (unhide HPQ).1)
  clear HB4 X0_4 X1_4 X2_4 HPQ H1 H2 H3
  obtain ⟨m0, m1, m2, m3, m4, m5, m6, m7, m8, m9, mf, mg⟩ := (unhide M0).facts
  go_wp2_with fail
  clear m0 m1 m2 m3 m4 m5 m6 m7 m8 m9 mf mg
  obtain ⟨a, hae⟩ : ∃ a, a = w4.heap.size := ⟨_, rfl⟩
  rw [← hae] at M0 ⊢
  clear hae
  generalize (w4.alloc (.cells #[.string s, .string s] 45)).alloc (.cells #[.string s, .string s] 45) = we at *
  obtain ⟨m0, m1, m2, m3, m4, m5, m6, m7, m8, m9, mf, mg⟩ := (unhide M0).facts
  refine (unhide H6 _).mono ?_
  rintro e we ⟨rfl, rfl⟩
  go_wp2_with fail
  clear m0 m1 m2 m3 m4 m5 m6 m7 m8 m9 mf mg
  have M1 := hide ((unhide M0).a1 n)
  clear M0
  generalize we.setCell ⟨a, 1, none⟩ (.string n) = wf at *
  have M2 := hide ((unhide M1).then (Below.refl _ _).drew)
  clear M1
  obtain ⟨m0, m1, m2, m3, m4, m5, m6, m7, m8, m9, mf, mg⟩ := (unhide M2).facts
  have M3 := hide ((unhide M2).b1 u)
  have H0 : Hid ((fun w' => w'.cell? ⟨p, 0, none⟩ = some (.int .i64 (G + 1))) wf.drew) := m3
  have H0' : Hid ((fun w' => w'.cell? ⟨p, 0, none⟩ = some (.int .i64 (G + 1))) (wf.drew.setCell ⟨a + 1, 1, none⟩ (.string u))) := (unhide M3).facts.2.2.2.1
  go_region_held3 (fun w' => w'.cell? ⟨p, 0, none⟩ = some (.int .i64 (G + 1)))
    (first | assumption | (exact unhide H0) | (exact unhide H0'))
    (first | (go_at_call 12; refine (unhide H6 _).mono ?_; rintro e wz ⟨rfl, hw⟩; subst hw))
  clear m0 m1 m2 m3 m4 m5 m6 m7 m8 m9 mf mg
  clear M2 H0 H0'
  have M3' : Hid (Mz w (wf.setCell ⟨a + 1, 1, none⟩ (.string u)).drew p a G R S (G + 1) root S s n s u) := M3
  clear M3
  generalize (wf.setCell ⟨a + 1, 1, none⟩ (.string u)).drew = wg at *
  have M3 := M3'
  clear M3'
  obtain ⟨m0, m1, m2, m3, m4, m5, m6, m7, m8, m9, mf, mg⟩ := (unhide M3).facts
  go_wp2_with fail
  clear m0 m1 m2 m3 m4 m5 m6 m7 m8 m9 mf mg
  refine (unhide H4 _ ((unhide HT).below (unhide M3).1)).mono ?_
  unfold sopened
  rintro e wh ⟨rfl, hb⟩
  have M4 := hide (((unhide M3).then hb).then (b_alloc wh (.cells #[.int .i64 (G + 1), .int .i64 root, .int .i64 S] 23)))
  have Y4 := hide (Bk.new wh (.int .i64 (G + 1)) (.int .i64 root) (.int .i64 S) 23)
  clear M3 hb
  obtain ⟨m0, m1, m2, m3, m4, m5, m6, m7, m8, m9, mf, mg⟩ := (unhide M4).facts
  go_wp2_with fail
  clear m0 m1 m2 m3 m4 m5 m6 m7 m8 m9 mf mg
  obtain ⟨d, hde⟩ : ∃ d, d = wh.heap.size := ⟨_, rfl⟩
  rw [← hde] at Y4 ⊢
  clear hde
  generalize wh.alloc (.cells #[.int .i64 (G + 1), .int .i64 root, .int .i64 S] 23) = wi at *
  refine (unhide H5 _ ((unhide HT).below (unhide M4).1)).mono ?_
  unfold sopened
  rintro e wj ⟨rfl, hb⟩
  have M5 := hide (((unhide M4).then hb).then (b_alloc wj (.cells #[.int .i64 G, .int .i64 R, .int .i64 S] 23)))
  have Y5 := hide (((unhide Y4).then hb).then (b_alloc wj (.cells #[.int .i64 G, .int .i64 R, .int .i64 S] 23)))
  clear M4 Y4 hb
  obtain ⟨m0, m1, m2, m3, m4, m5, m6, m7, m8, m9, mf, mg⟩ := (unhide M5).facts
  obtain ⟨y0, y1, y2, _⟩ := (unhide Y5).cells
  go_wp2
  go_ret
  exact ⟨rfl, (unhide M5).1⟩
set_option maxRecDepth 10000 in
set_option maxHeartbeats 2000000 in
theorem snewer_m1n (G R S root cut : Int) (w : World) (hT : Tab w) (hc : 1 ≤ G) (hd : G < 1152921504606846976) (c : Nat) (hcut : cut = (c : Int)) (he : c ≤ 1024) (s n m : ByteArray) (h1 : swrapR G R S = (s, 0)) (h2 : swrapR (G + 1) root S = (n, 0)) (h3 : swrapR (G - 1) R S = (m, 0)) (z2 : n.size = 1024) (z3 : m.size = 1024) (hp : bits .and .i64 (G + 1) 1 = 1) (u : ByteArray) (hu : n.extract 0 c ++ m.extract c 1024 = u) (h4 : chooseR s n = (G + 1, root, S, 0)) (h5 : chooseR s u = (G + 1, root, S, 0)) (hun : u = n) : Calls Tryd.prog 8 #[.agg #[.int .i64 G, .int .i64 R, .int .i64 S], .int .i64 root, .int .i64 cut] w fun e w' => e = .returned (.bool true) ∧ Below w.heap.size w w' := by
  have hA := fun W (hW : Tab W) => awake_any W hW
  subst hcut
  have zc1 : ((n.extract 0 c).size : Int) ≤ 1024 := by rw [ByteArray.size_extract]; omega
  have ad : ∀ W, (Op.stringOp .add (n.extract 0 c) (m.extract c 1024)).run Tryd.prog W = .ok (.string u) W := fun W => by
    rw [← hu]
    exact add_run _ _ (by rw [ByteArray.size_extract, ByteArray.size_extract]; omega) W
  have k4 := fun W (hW : Tab W) => choose_any s n W hW
  rw [h4] at k4
  have k5 := fun W (hW : Tab W) => choose_any s u W hW
  rw [h5] at k5
  have k6 : ∀ W, Calls Tryd.prog 12 #[.int .i64 (G + 1)] W fun e w' => e = .returned (.int .i64 1) ∧ w' = W := fun W => by
    have h := slot_any (G + 1) W
    rw [hp] at h
    exact h
  have gg1 : ((G + 1) == G) = false := beq_eq_false_iff_ne.2 (by omega)
  have gg2 : (G == (G + 1)) = false := beq_eq_false_iff_ne.2 (by omega)
  have H4 := hide k4
  have H5 := hide k5
  have H6 := hide k6
  clear zc1 k4 k5 k6 h4 h5 hp hu
  have k1 := fun W (hW : Tab W) => swrap_any G R S W hW
  have k2 := fun W (hW : Tab W) => swrap_any (G + 1) root S W hW
  have k3 := fun W (hW : Tab W) => swrap_any (G - 1) R S W hW
  rw [h1] at k1
  rw [h2] at k2
  rw [h3] at k3
  have H1 := hide k1
  have H2 := hide k2
  have H3 := hide k3
  clear k1 k2 k3 h1 h2 h3
  subst hun
  have ea := eqAr s u
  have ea2 := eqAr u s
  have HT := hide hT
  have HA := hide hA
  clear hT hA
  go_enter Tryd.func8, Tryd.ntmps8
  go_wp2_with fail
  have HB0 := hide (b_alloc w (.cells #[.int .i64 G, .int .i64 R, .int .i64 S] 23))
  have X0 := hide (Bk.new w (.int .i64 G) (.int .i64 R) (.int .i64 S) 23)
  generalize w.alloc (.cells #[.int .i64 G, .int .i64 R, .int .i64 S] 23) = w0 at *
  refine (unhide HA _ ((unhide HT).below (unhide HB0))).mono ?_
  rintro e w1 ⟨rfl, hb⟩
  have HB1 := hide (below_then (unhide HB0) hb)
  have X0_1 := hide ((unhide X0).then hb)
  clear hb HB0 X0
  go_upto_region 3 with fail
  go_cut [7, 8] (fun s7 s8 wc => ∃ p q, s7 = .pointer (some ⟨p, 0, none⟩) ∧ s8 = .pointer (some ⟨q, 0, none⟩) ∧ Nw w wc p q G R S G R S G R S)
  case first =>
    have KP : Hid (∀ wa wb, (fun w' => Below w.heap.size w w' ∧ w'.cell? ⟨w.heap.size, 0, none⟩ = some (.int .i64 G) ∧ w'.cell? ⟨w.heap.size, 1, none⟩ = some (.int .i64 R) ∧ w'.cell? ⟨w.heap.size, 2, none⟩ = some (.int .i64 S)) wa → Below wa.heap.size wa wb → (fun w' => Below w.heap.size w w' ∧ w'.cell? ⟨w.heap.size, 0, none⟩ = some (.int .i64 G) ∧ w'.cell? ⟨w.heap.size, 1, none⟩ = some (.int .i64 R) ∧ w'.cell? ⟨w.heap.size, 2, none⟩ = some (.int .i64 S)) wb) := fun wa wb h hb => ⟨below_then h.1 hb, (hb.cell (World.block_lt_of_cell? wa _ h.2.1)).trans h.2.1, (hb.cell (World.block_lt_of_cell? wa _ h.2.2.1)).trans h.2.2.1, (hb.cell (World.block_lt_of_cell? wa _ h.2.2.2)).trans h.2.2.2⟩
    have H0 : Hid ((fun w' => Below w.heap.size w w' ∧ w'.cell? ⟨w.heap.size, 0, none⟩ = some (.int .i64 G) ∧ w'.cell? ⟨w.heap.size, 1, none⟩ = some (.int .i64 R) ∧ w'.cell? ⟨w.heap.size, 2, none⟩ = some (.int .i64 S)) w1.drew) := ⟨(unhide HB1).drew, (unhide X0_1).cells.1, (unhide X0_1).cells.2.1, (unhide X0_1).cells.2.2.1⟩
    have K1 : Hid (∀ o, (fun w' => Below w.heap.size w w' ∧ w'.cell? ⟨w.heap.size, 0, none⟩ = some (.int .i64 G) ∧ w'.cell? ⟨w.heap.size, 1, none⟩ = some (.int .i64 R) ∧ w'.cell? ⟨w.heap.size, 2, none⟩ = some (.int .i64 S)) (w1.alloc o).drew) := fun o => unhide KP _ _ (unhide H0) (b_alloc w1.drew o)
    have K2 : Hid (∀ o o', (fun w' => Below w.heap.size w w' ∧ w'.cell? ⟨w.heap.size, 0, none⟩ = some (.int .i64 G) ∧ w'.cell? ⟨w.heap.size, 1, none⟩ = some (.int .i64 R) ∧ w'.cell? ⟨w.heap.size, 2, none⟩ = some (.int .i64 S)) ((w1.alloc o).alloc o').drew) := fun o o' => unhide KP _ _ (unhide K1 o) (b_alloc (w1.alloc o).drew o')
    have KT := hide (Nw.two (unhide HB1) (unhide X0_1))
    go_region_held3 (fun w' => Below w.heap.size w w' ∧ w'.cell? ⟨w.heap.size, 0, none⟩ = some (.int .i64 G) ∧ w'.cell? ⟨w.heap.size, 1, none⟩ = some (.int .i64 R) ∧ w'.cell? ⟨w.heap.size, 2, none⟩ = some (.int .i64 S))
      (first | assumption | (exact unhide H0) | (exact unhide K1 _) | (exact unhide K2 _ _))
      (fail)
    all_goals (go_wp2_with fail; go_meet)
    · exact ⟨_, _, rfl, rfl, (unhide KT).1.then (Below.refl _ _).drew⟩
    · exact ⟨_, _, rfl, rfl, (unhide KT).2.then (Below.refl _ _).drew⟩
  case rest =>
  obtain ⟨p, q, rfl, rfl, hN⟩ := hcut
  have N0 := hide hN
  clear hN HB1 X0_1
  obtain ⟨_, p1, p2, pf⟩ := (unhide N0).2.2.1.cells
  have N1 := hide ((unhide N0).root root)
  obtain ⟨s0, s1, s2, _⟩ := (unhide N1).2.1.cells
  obtain ⟨r0, r1, r2, rf⟩ := (unhide N1).2.2.1.cells
  have N2 := hide ((unhide N1).gen (G + 1))
  obtain ⟨t0, t1, t2, _⟩ := (unhide N2).2.1.cells
  obtain ⟨q0, q1, q2, qf⟩ := (unhide N2).2.2.2.1.cells
  have N3 := hide ((unhide N2).gen' (G - 1))
  obtain ⟨u0, u1, u2, _⟩ := (unhide N3).2.1.cells
  go_wp2_with fail
  clear p1 p2 pf s0 s1 s2 r0 r1 r2 rf t0 t1 t2 q0 q1 q2 qf u0 u1 u2 N0 N1 N2
  generalize ((wc.setCell ⟨p, 1, none⟩ (.int .i64 root)).setCell ⟨p, 0, none⟩ (.int .i64 (G + 1))).setCell ⟨q, 0, none⟩ (.int .i64 (G - 1)) = wd at *
  obtain ⟨hb0, hx0, hx1, hx2, hp, hq, hpq⟩ := unhide N3
  have HBn := hide hb0
  have X0 := hide hx0
  have X1 := hide hx1
  have X2 := hide hx2
  have HPQ := hide (And.intro hp (And.intro hq hpq))
  clear N3 hb0 hx0 hx1 hx2 hp hq hpq
  refine (unhide H1 _ ((unhide HT).below (unhide HBn))).mono ?_
  unfold wrapped
  rintro e w2 ⟨rfl, hb⟩
  have HB2 := hide (below_then (unhide HBn) hb)
  have X0_2 := hide ((unhide X0).then hb)
  have X1_2 := hide ((unhide X1).then hb)
  have X2_2 := hide ((unhide X2).then hb)
  clear hb HBn X0 X1 X2
  obtain ⟨c00, c01, c02, _⟩ := (unhide X0_2).cells
  obtain ⟨c10, c11, c12, _⟩ := (unhide X1_2).cells
  obtain ⟨c20, c21, c22, _⟩ := (unhide X2_2).cells
  go_wp2_with fail
  clear c00 c01 c02 c10 c11 c12 c20 c21 c22
  refine (unhide H2 _ ((unhide HT).below (unhide HB2))).mono ?_
  unfold wrapped
  rintro e w3 ⟨rfl, hb⟩
  have HB3 := hide (below_then (unhide HB2) hb)
  have X0_3 := hide ((unhide X0_2).then hb)
  have X1_3 := hide ((unhide X1_2).then hb)
  have X2_3 := hide ((unhide X2_2).then hb)
  clear hb HB2 X0_2 X1_2 X2_2
  obtain ⟨c00, c01, c02, _⟩ := (unhide X0_3).cells
  obtain ⟨c10, c11, c12, _⟩ := (unhide X1_3).cells
  obtain ⟨c20, c21, c22, _⟩ := (unhide X2_3).cells
  go_wp2_with fail
  clear c00 c01 c02 c10 c11 c12 c20 c21 c22
  refine (unhide H3 _ ((unhide HT).below (unhide HB3))).mono ?_
  unfold wrapped
  rintro e w4 ⟨rfl, hb⟩
  have HB4 := hide (below_then (unhide HB3) hb)
  have X0_4 := hide ((unhide X0_3).then hb)
  have X1_4 := hide ((unhide X1_3).then hb)
  have X2_4 := hide ((unhide X2_3).then hb)
  clear hb HB3 X0_3 X1_3 X2_3
  have M0 := hide (Mz.new s (unhide HB4) (unhide X0_4) (unhide X1_4) (unhide HPQ).1)
  clear HB4 X0_4 X1_4 X2_4 HPQ H1 H2 H3
  obtain ⟨m0, m1, m2, m3, m4, m5, m6, m7, m8, m9, mf, mg⟩ := (unhide M0).facts
  go_wp2_with fail
  clear m0 m1 m2 m3 m4 m5 m6 m7 m8 m9 mf mg
  obtain ⟨a, hae⟩ : ∃ a, a = w4.heap.size := ⟨_, rfl⟩
  rw [← hae] at M0 ⊢
  clear hae
  generalize (w4.alloc (.cells #[.string s, .string s] 45)).alloc (.cells #[.string s, .string s] 45) = we at *
  obtain ⟨m0, m1, m2, m3, m4, m5, m6, m7, m8, m9, mf, mg⟩ := (unhide M0).facts
  refine (unhide H6 _).mono ?_
  rintro e we ⟨rfl, rfl⟩
  go_wp2_with fail
  clear m0 m1 m2 m3 m4 m5 m6 m7 m8 m9 mf mg
  have M1 := hide ((unhide M0).a1 u)
  clear M0
  generalize we.setCell ⟨a, 1, none⟩ (.string u) = wf at *
  have M2 := hide ((unhide M1).then (Below.refl _ _).drew)
  clear M1
  obtain ⟨m0, m1, m2, m3, m4, m5, m6, m7, m8, m9, mf, mg⟩ := (unhide M2).facts
  have M3 := hide ((unhide M2).b1 u)
  have H0 : Hid ((fun w' => w'.cell? ⟨p, 0, none⟩ = some (.int .i64 (G + 1))) wf.drew) := m3
  have H0' : Hid ((fun w' => w'.cell? ⟨p, 0, none⟩ = some (.int .i64 (G + 1))) (wf.drew.setCell ⟨a + 1, 1, none⟩ (.string u))) := (unhide M3).facts.2.2.2.1
  go_region_held3 (fun w' => w'.cell? ⟨p, 0, none⟩ = some (.int .i64 (G + 1)))
    (first | assumption | (exact unhide H0) | (exact unhide H0'))
    (first | (go_at_call 12; refine (unhide H6 _).mono ?_; rintro e wz ⟨rfl, hw⟩; subst hw))
  clear m0 m1 m2 m3 m4 m5 m6 m7 m8 m9 mf mg
  clear M2 H0 H0'
  have M3' : Hid (Mz w (wf.setCell ⟨a + 1, 1, none⟩ (.string u)).drew p a G R S (G + 1) root S s u s u) := M3
  clear M3
  generalize (wf.setCell ⟨a + 1, 1, none⟩ (.string u)).drew = wg at *
  have M3 := M3'
  clear M3'
  obtain ⟨m0, m1, m2, m3, m4, m5, m6, m7, m8, m9, mf, mg⟩ := (unhide M3).facts
  go_wp2_with fail
  clear m0 m1 m2 m3 m4 m5 m6 m7 m8 m9 mf mg
  refine (unhide H4 _ ((unhide HT).below (unhide M3).1)).mono ?_
  unfold sopened
  rintro e wh ⟨rfl, hb⟩
  have M4 := hide (((unhide M3).then hb).then (b_alloc wh (.cells #[.int .i64 (G + 1), .int .i64 root, .int .i64 S] 23)))
  have Y4 := hide (Bk.new wh (.int .i64 (G + 1)) (.int .i64 root) (.int .i64 S) 23)
  clear M3 hb
  obtain ⟨m0, m1, m2, m3, m4, m5, m6, m7, m8, m9, mf, mg⟩ := (unhide M4).facts
  go_wp2_with fail
  clear m0 m1 m2 m3 m4 m5 m6 m7 m8 m9 mf mg
  obtain ⟨d, hde⟩ : ∃ d, d = wh.heap.size := ⟨_, rfl⟩
  rw [← hde] at Y4 ⊢
  clear hde
  generalize wh.alloc (.cells #[.int .i64 (G + 1), .int .i64 root, .int .i64 S] 23) = wi at *
  refine (unhide H5 _ ((unhide HT).below (unhide M4).1)).mono ?_
  unfold sopened
  rintro e wj ⟨rfl, hb⟩
  have M5 := hide (((unhide M4).then hb).then (b_alloc wj (.cells #[.int .i64 (G + 1), .int .i64 root, .int .i64 S] 23)))
  have Y5 := hide (((unhide Y4).then hb).then (b_alloc wj (.cells #[.int .i64 (G + 1), .int .i64 root, .int .i64 S] 23)))
  clear M4 Y4 hb
  obtain ⟨m0, m1, m2, m3, m4, m5, m6, m7, m8, m9, mf, mg⟩ := (unhide M5).facts
  obtain ⟨y0, y1, y2, _⟩ := (unhide Y5).cells
  go_wp2
  go_ret
  exact ⟨rfl, (unhide M5).1⟩
set_option maxRecDepth 10000 in
set_option maxHeartbeats 2000000 in
theorem snewer_m0s (G R S root cut : Int) (w : World) (hT : Tab w) (hc : 1 ≤ G) (hd : G < 1152921504606846976) (c : Nat) (hcut : cut = (c : Int)) (he : c ≤ 1024) (s n m : ByteArray) (h1 : swrapR G R S = (s, 0)) (h2 : swrapR (G + 1) root S = (n, 0)) (h3 : swrapR (G - 1) R S = (m, 0)) (z2 : n.size = 1024) (z3 : m.size = 1024) (hp : bits .and .i64 (G + 1) 1 = 0) (u : ByteArray) (hu : n.extract 0 c ++ m.extract c 1024 = u) (h4 : chooseR n s = (G + 1, root, S, 0)) (h5 : chooseR u s = (G, R, S, 0)) : Calls Tryd.prog 8 #[.agg #[.int .i64 G, .int .i64 R, .int .i64 S], .int .i64 root, .int .i64 cut] w fun e w' => e = .returned (.bool true) ∧ Below w.heap.size w w' := by
  have hA := fun W (hW : Tab W) => awake_any W hW
  subst hcut
  have zc1 : ((n.extract 0 c).size : Int) ≤ 1024 := by rw [ByteArray.size_extract]; omega
  have ad : ∀ W, (Op.stringOp .add (n.extract 0 c) (m.extract c 1024)).run Tryd.prog W = .ok (.string u) W := fun W => by
    rw [← hu]
    exact add_run _ _ (by rw [ByteArray.size_extract, ByteArray.size_extract]; omega) W
  have k4 := fun W (hW : Tab W) => choose_any n s W hW
  rw [h4] at k4
  have k5 := fun W (hW : Tab W) => choose_any u s W hW
  rw [h5] at k5
  have k6 : ∀ W, Calls Tryd.prog 12 #[.int .i64 (G + 1)] W fun e w' => e = .returned (.int .i64 0) ∧ w' = W := fun W => by
    have h := slot_any (G + 1) W
    rw [hp] at h
    exact h
  have gg1 : ((G + 1) == G) = false := beq_eq_false_iff_ne.2 (by omega)
  have gg2 : (G == (G + 1)) = false := beq_eq_false_iff_ne.2 (by omega)
  have H4 := hide k4
  have H5 := hide k5
  have H6 := hide k6
  clear zc1 k4 k5 k6 h4 h5 hp hu
  have k1 := fun W (hW : Tab W) => swrap_any G R S W hW
  have k2 := fun W (hW : Tab W) => swrap_any (G + 1) root S W hW
  have k3 := fun W (hW : Tab W) => swrap_any (G - 1) R S W hW
  rw [h1] at k1
  rw [h2] at k2
  rw [h3] at k3
  have H1 := hide k1
  have H2 := hide k2
  have H3 := hide k3
  clear k1 k2 k3 h1 h2 h3
  have HT := hide hT
  have HA := hide hA
  clear hT hA
  go_enter Tryd.func8, Tryd.ntmps8
  go_wp2_with fail
  have HB0 := hide (b_alloc w (.cells #[.int .i64 G, .int .i64 R, .int .i64 S] 23))
  have X0 := hide (Bk.new w (.int .i64 G) (.int .i64 R) (.int .i64 S) 23)
  generalize w.alloc (.cells #[.int .i64 G, .int .i64 R, .int .i64 S] 23) = w0 at *
  refine (unhide HA _ ((unhide HT).below (unhide HB0))).mono ?_
  rintro e w1 ⟨rfl, hb⟩
  have HB1 := hide (below_then (unhide HB0) hb)
  have X0_1 := hide ((unhide X0).then hb)
  clear hb HB0 X0
  go_upto_region 3 with fail
  go_cut [7, 8] (fun s7 s8 wc => ∃ p q, s7 = .pointer (some ⟨p, 0, none⟩) ∧ s8 = .pointer (some ⟨q, 0, none⟩) ∧ Nw w wc p q G R S G R S G R S)
  case first =>
    have KP : Hid (∀ wa wb, (fun w' => Below w.heap.size w w' ∧ w'.cell? ⟨w.heap.size, 0, none⟩ = some (.int .i64 G) ∧ w'.cell? ⟨w.heap.size, 1, none⟩ = some (.int .i64 R) ∧ w'.cell? ⟨w.heap.size, 2, none⟩ = some (.int .i64 S)) wa → Below wa.heap.size wa wb → (fun w' => Below w.heap.size w w' ∧ w'.cell? ⟨w.heap.size, 0, none⟩ = some (.int .i64 G) ∧ w'.cell? ⟨w.heap.size, 1, none⟩ = some (.int .i64 R) ∧ w'.cell? ⟨w.heap.size, 2, none⟩ = some (.int .i64 S)) wb) := fun wa wb h hb => ⟨below_then h.1 hb, (hb.cell (World.block_lt_of_cell? wa _ h.2.1)).trans h.2.1, (hb.cell (World.block_lt_of_cell? wa _ h.2.2.1)).trans h.2.2.1, (hb.cell (World.block_lt_of_cell? wa _ h.2.2.2)).trans h.2.2.2⟩
    have H0 : Hid ((fun w' => Below w.heap.size w w' ∧ w'.cell? ⟨w.heap.size, 0, none⟩ = some (.int .i64 G) ∧ w'.cell? ⟨w.heap.size, 1, none⟩ = some (.int .i64 R) ∧ w'.cell? ⟨w.heap.size, 2, none⟩ = some (.int .i64 S)) w1.drew) := ⟨(unhide HB1).drew, (unhide X0_1).cells.1, (unhide X0_1).cells.2.1, (unhide X0_1).cells.2.2.1⟩
    have K1 : Hid (∀ o, (fun w' => Below w.heap.size w w' ∧ w'.cell? ⟨w.heap.size, 0, none⟩ = some (.int .i64 G) ∧ w'.cell? ⟨w.heap.size, 1, none⟩ = some (.int .i64 R) ∧ w'.cell? ⟨w.heap.size, 2, none⟩ = some (.int .i64 S)) (w1.alloc o).drew) := fun o => unhide KP _ _ (unhide H0) (b_alloc w1.drew o)
    have K2 : Hid (∀ o o', (fun w' => Below w.heap.size w w' ∧ w'.cell? ⟨w.heap.size, 0, none⟩ = some (.int .i64 G) ∧ w'.cell? ⟨w.heap.size, 1, none⟩ = some (.int .i64 R) ∧ w'.cell? ⟨w.heap.size, 2, none⟩ = some (.int .i64 S)) ((w1.alloc o).alloc o').drew) := fun o o' => unhide KP _ _ (unhide K1 o) (b_alloc (w1.alloc o).drew o')
    have KT := hide (Nw.two (unhide HB1) (unhide X0_1))
    go_region_held3 (fun w' => Below w.heap.size w w' ∧ w'.cell? ⟨w.heap.size, 0, none⟩ = some (.int .i64 G) ∧ w'.cell? ⟨w.heap.size, 1, none⟩ = some (.int .i64 R) ∧ w'.cell? ⟨w.heap.size, 2, none⟩ = some (.int .i64 S))
      (first | assumption | (exact unhide H0) | (exact unhide K1 _) | (exact unhide K2 _ _))
      (fail)
    all_goals (go_wp2_with fail; go_meet)
    · exact ⟨_, _, rfl, rfl, (unhide KT).1.then (Below.refl _ _).drew⟩
    · exact ⟨_, _, rfl, rfl, (unhide KT).2.then (Below.refl _ _).drew⟩
  case rest =>
  obtain ⟨p, q, rfl, rfl, hN⟩ := hcut
  have N0 := hide hN
  clear hN HB1 X0_1
  obtain ⟨_, p1, p2, pf⟩ := (unhide N0).2.2.1.cells
  have N1 := hide ((unhide N0).root root)
  obtain ⟨s0, s1, s2, _⟩ := (unhide N1).2.1.cells
  obtain ⟨r0, r1, r2, rf⟩ := (unhide N1).2.2.1.cells
  have N2 := hide ((unhide N1).gen (G + 1))
  obtain ⟨t0, t1, t2, _⟩ := (unhide N2).2.1.cells
  obtain ⟨q0, q1, q2, qf⟩ := (unhide N2).2.2.2.1.cells
  have N3 := hide ((unhide N2).gen' (G - 1))
  obtain ⟨u0, u1, u2, _⟩ := (unhide N3).2.1.cells
  go_wp2_with fail
  clear p1 p2 pf s0 s1 s2 r0 r1 r2 rf t0 t1 t2 q0 q1 q2 qf u0 u1 u2 N0 N1 N2
  generalize ((wc.setCell ⟨p, 1, none⟩ (.int .i64 root)).setCell ⟨p, 0, none⟩ (.int .i64 (G + 1))).setCell ⟨q, 0, none⟩ (.int .i64 (G - 1)) = wd at *
  obtain ⟨hb0, hx0, hx1, hx2, hp, hq, hpq⟩ := unhide N3
  have HBn := hide hb0
  have X0 := hide hx0
  have X1 := hide hx1
  have X2 := hide hx2
  have HPQ := hide (And.intro hp (And.intro hq hpq))
  clear N3 hb0 hx0 hx1 hx2 hp hq hpq
  refine (unhide H1 _ ((unhide HT).below (unhide HBn))).mono ?_
  unfold wrapped
  rintro e w2 ⟨rfl, hb⟩
  have HB2 := hide (below_then (unhide HBn) hb)
  have X0_2 := hide ((unhide X0).then hb)
  have X1_2 := hide ((unhide X1).then hb)
  have X2_2 := hide ((unhide X2).then hb)
  clear hb HBn X0 X1 X2
  obtain ⟨c00, c01, c02, _⟩ := (unhide X0_2).cells
  obtain ⟨c10, c11, c12, _⟩ := (unhide X1_2).cells
  obtain ⟨c20, c21, c22, _⟩ := (unhide X2_2).cells
  go_wp2_with fail
  clear c00 c01 c02 c10 c11 c12 c20 c21 c22
  refine (unhide H2 _ ((unhide HT).below (unhide HB2))).mono ?_
  unfold wrapped
  rintro e w3 ⟨rfl, hb⟩
  have HB3 := hide (below_then (unhide HB2) hb)
  have X0_3 := hide ((unhide X0_2).then hb)
  have X1_3 := hide ((unhide X1_2).then hb)
  have X2_3 := hide ((unhide X2_2).then hb)
  clear hb HB2 X0_2 X1_2 X2_2
  obtain ⟨c00, c01, c02, _⟩ := (unhide X0_3).cells
  obtain ⟨c10, c11, c12, _⟩ := (unhide X1_3).cells
  obtain ⟨c20, c21, c22, _⟩ := (unhide X2_3).cells
  go_wp2_with fail
  clear c00 c01 c02 c10 c11 c12 c20 c21 c22
  refine (unhide H3 _ ((unhide HT).below (unhide HB3))).mono ?_
  unfold wrapped
  rintro e w4 ⟨rfl, hb⟩
  have HB4 := hide (below_then (unhide HB3) hb)
  have X0_4 := hide ((unhide X0_3).then hb)
  have X1_4 := hide ((unhide X1_3).then hb)
  have X2_4 := hide ((unhide X2_3).then hb)
  clear hb HB3 X0_3 X1_3 X2_3
  have M0 := hide (Mz.new s (unhide HB4) (unhide X0_4) (unhide X1_4) (unhide HPQ).1)
  clear HB4 X0_4 X1_4 X2_4 HPQ H1 H2 H3
  obtain ⟨m0, m1, m2, m3, m4, m5, m6, m7, m8, m9, mf, mg⟩ := (unhide M0).facts
  go_wp2_with fail
  clear m0 m1 m2 m3 m4 m5 m6 m7 m8 m9 mf mg
  obtain ⟨a, hae⟩ : ∃ a, a = w4.heap.size := ⟨_, rfl⟩
  rw [← hae] at M0 ⊢
  clear hae
  generalize (w4.alloc (.cells #[.string s, .string s] 45)).alloc (.cells #[.string s, .string s] 45) = we at *
  obtain ⟨m0, m1, m2, m3, m4, m5, m6, m7, m8, m9, mf, mg⟩ := (unhide M0).facts
  refine (unhide H6 _).mono ?_
  rintro e we ⟨rfl, rfl⟩
  go_wp2_with fail
  clear m0 m1 m2 m3 m4 m5 m6 m7 m8 m9 mf mg
  have M1 := hide ((unhide M0).a0 n)
  clear M0
  generalize we.setCell ⟨a, 0, none⟩ (.string n) = wf at *
  have M2 := hide ((unhide M1).then (Below.refl _ _).drew)
  clear M1
  obtain ⟨m0, m1, m2, m3, m4, m5, m6, m7, m8, m9, mf, mg⟩ := (unhide M2).facts
  have M3 := hide ((unhide M2).b0 u)
  have H0 : Hid ((fun w' => w'.cell? ⟨p, 0, none⟩ = some (.int .i64 (G + 1))) wf.drew) := m3
  have H0' : Hid ((fun w' => w'.cell? ⟨p, 0, none⟩ = some (.int .i64 (G + 1))) (wf.drew.setCell ⟨a + 1, 0, none⟩ (.string u))) := (unhide M3).facts.2.2.2.1
  go_region_held3 (fun w' => w'.cell? ⟨p, 0, none⟩ = some (.int .i64 (G + 1)))
    (first | assumption | (exact unhide H0) | (exact unhide H0'))
    (first | (go_at_call 12; refine (unhide H6 _).mono ?_; rintro e wz ⟨rfl, hw⟩; subst hw))
  clear m0 m1 m2 m3 m4 m5 m6 m7 m8 m9 mf mg
  clear M2 H0 H0'
  have M3' : Hid (Mz w (wf.setCell ⟨a + 1, 0, none⟩ (.string u)).drew p a G R S (G + 1) root S n s u s) := M3
  clear M3
  generalize (wf.setCell ⟨a + 1, 0, none⟩ (.string u)).drew = wg at *
  have M3 := M3'
  clear M3'
  obtain ⟨m0, m1, m2, m3, m4, m5, m6, m7, m8, m9, mf, mg⟩ := (unhide M3).facts
  go_wp2_with fail
  clear m0 m1 m2 m3 m4 m5 m6 m7 m8 m9 mf mg
  refine (unhide H4 _ ((unhide HT).below (unhide M3).1)).mono ?_
  unfold sopened
  rintro e wh ⟨rfl, hb⟩
  have M4 := hide (((unhide M3).then hb).then (b_alloc wh (.cells #[.int .i64 (G + 1), .int .i64 root, .int .i64 S] 23)))
  have Y4 := hide (Bk.new wh (.int .i64 (G + 1)) (.int .i64 root) (.int .i64 S) 23)
  clear M3 hb
  obtain ⟨m0, m1, m2, m3, m4, m5, m6, m7, m8, m9, mf, mg⟩ := (unhide M4).facts
  go_wp2_with fail
  clear m0 m1 m2 m3 m4 m5 m6 m7 m8 m9 mf mg
  obtain ⟨d, hde⟩ : ∃ d, d = wh.heap.size := ⟨_, rfl⟩
  rw [← hde] at Y4 ⊢
  clear hde
  generalize wh.alloc (.cells #[.int .i64 (G + 1), .int .i64 root, .int .i64 S] 23) = wi at *
  refine (unhide H5 _ ((unhide HT).below (unhide M4).1)).mono ?_
  unfold sopened
  rintro e wj ⟨rfl, hb⟩
  have M5 := hide (((unhide M4).then hb).then (b_alloc wj (.cells #[.int .i64 G, .int .i64 R, .int .i64 S] 23)))
  have Y5 := hide (((unhide Y4).then hb).then (b_alloc wj (.cells #[.int .i64 G, .int .i64 R, .int .i64 S] 23)))
  clear M4 Y4 hb
  obtain ⟨m0, m1, m2, m3, m4, m5, m6, m7, m8, m9, mf, mg⟩ := (unhide M5).facts
  obtain ⟨y0, y1, y2, _⟩ := (unhide Y5).cells
  go_wp2
  go_ret
  exact ⟨rfl, (unhide M5).1⟩
set_option maxRecDepth 10000 in
set_option maxHeartbeats 2000000 in
theorem snewer_m0n (G R S root cut : Int) (w : World) (hT : Tab w) (hc : 1 ≤ G) (hd : G < 1152921504606846976) (c : Nat) (hcut : cut = (c : Int)) (he : c ≤ 1024) (s n m : ByteArray) (h1 : swrapR G R S = (s, 0)) (h2 : swrapR (G + 1) root S = (n, 0)) (h3 : swrapR (G - 1) R S = (m, 0)) (z2 : n.size = 1024) (z3 : m.size = 1024) (hp : bits .and .i64 (G + 1) 1 = 0) (u : ByteArray) (hu : n.extract 0 c ++ m.extract c 1024 = u) (h4 : chooseR n s = (G + 1, root, S, 0)) (h5 : chooseR u s = (G + 1, root, S, 0)) (hun : u = n) : Calls Tryd.prog 8 #[.agg #[.int .i64 G, .int .i64 R, .int .i64 S], .int .i64 root, .int .i64 cut] w fun e w' => e = .returned (.bool true) ∧ Below w.heap.size w w' := by
  have hA := fun W (hW : Tab W) => awake_any W hW
  subst hcut
  have zc1 : ((n.extract 0 c).size : Int) ≤ 1024 := by rw [ByteArray.size_extract]; omega
  have ad : ∀ W, (Op.stringOp .add (n.extract 0 c) (m.extract c 1024)).run Tryd.prog W = .ok (.string u) W := fun W => by
    rw [← hu]
    exact add_run _ _ (by rw [ByteArray.size_extract, ByteArray.size_extract]; omega) W
  have k4 := fun W (hW : Tab W) => choose_any n s W hW
  rw [h4] at k4
  have k5 := fun W (hW : Tab W) => choose_any u s W hW
  rw [h5] at k5
  have k6 : ∀ W, Calls Tryd.prog 12 #[.int .i64 (G + 1)] W fun e w' => e = .returned (.int .i64 0) ∧ w' = W := fun W => by
    have h := slot_any (G + 1) W
    rw [hp] at h
    exact h
  have gg1 : ((G + 1) == G) = false := beq_eq_false_iff_ne.2 (by omega)
  have gg2 : (G == (G + 1)) = false := beq_eq_false_iff_ne.2 (by omega)
  have H4 := hide k4
  have H5 := hide k5
  have H6 := hide k6
  clear zc1 k4 k5 k6 h4 h5 hp hu
  have k1 := fun W (hW : Tab W) => swrap_any G R S W hW
  have k2 := fun W (hW : Tab W) => swrap_any (G + 1) root S W hW
  have k3 := fun W (hW : Tab W) => swrap_any (G - 1) R S W hW
  rw [h1] at k1
  rw [h2] at k2
  rw [h3] at k3
  have H1 := hide k1
  have H2 := hide k2
  have H3 := hide k3
  clear k1 k2 k3 h1 h2 h3
  subst hun
  have ea := eqAr s u
  have ea2 := eqAr u s
  have HT := hide hT
  have HA := hide hA
  clear hT hA
  go_enter Tryd.func8, Tryd.ntmps8
  go_wp2_with fail
  have HB0 := hide (b_alloc w (.cells #[.int .i64 G, .int .i64 R, .int .i64 S] 23))
  have X0 := hide (Bk.new w (.int .i64 G) (.int .i64 R) (.int .i64 S) 23)
  generalize w.alloc (.cells #[.int .i64 G, .int .i64 R, .int .i64 S] 23) = w0 at *
  refine (unhide HA _ ((unhide HT).below (unhide HB0))).mono ?_
  rintro e w1 ⟨rfl, hb⟩
  have HB1 := hide (below_then (unhide HB0) hb)
  have X0_1 := hide ((unhide X0).then hb)
  clear hb HB0 X0
  go_upto_region 3 with fail
  go_cut [7, 8] (fun s7 s8 wc => ∃ p q, s7 = .pointer (some ⟨p, 0, none⟩) ∧ s8 = .pointer (some ⟨q, 0, none⟩) ∧ Nw w wc p q G R S G R S G R S)
  case first =>
    have KP : Hid (∀ wa wb, (fun w' => Below w.heap.size w w' ∧ w'.cell? ⟨w.heap.size, 0, none⟩ = some (.int .i64 G) ∧ w'.cell? ⟨w.heap.size, 1, none⟩ = some (.int .i64 R) ∧ w'.cell? ⟨w.heap.size, 2, none⟩ = some (.int .i64 S)) wa → Below wa.heap.size wa wb → (fun w' => Below w.heap.size w w' ∧ w'.cell? ⟨w.heap.size, 0, none⟩ = some (.int .i64 G) ∧ w'.cell? ⟨w.heap.size, 1, none⟩ = some (.int .i64 R) ∧ w'.cell? ⟨w.heap.size, 2, none⟩ = some (.int .i64 S)) wb) := fun wa wb h hb => ⟨below_then h.1 hb, (hb.cell (World.block_lt_of_cell? wa _ h.2.1)).trans h.2.1, (hb.cell (World.block_lt_of_cell? wa _ h.2.2.1)).trans h.2.2.1, (hb.cell (World.block_lt_of_cell? wa _ h.2.2.2)).trans h.2.2.2⟩
    have H0 : Hid ((fun w' => Below w.heap.size w w' ∧ w'.cell? ⟨w.heap.size, 0, none⟩ = some (.int .i64 G) ∧ w'.cell? ⟨w.heap.size, 1, none⟩ = some (.int .i64 R) ∧ w'.cell? ⟨w.heap.size, 2, none⟩ = some (.int .i64 S)) w1.drew) := ⟨(unhide HB1).drew, (unhide X0_1).cells.1, (unhide X0_1).cells.2.1, (unhide X0_1).cells.2.2.1⟩
    have K1 : Hid (∀ o, (fun w' => Below w.heap.size w w' ∧ w'.cell? ⟨w.heap.size, 0, none⟩ = some (.int .i64 G) ∧ w'.cell? ⟨w.heap.size, 1, none⟩ = some (.int .i64 R) ∧ w'.cell? ⟨w.heap.size, 2, none⟩ = some (.int .i64 S)) (w1.alloc o).drew) := fun o => unhide KP _ _ (unhide H0) (b_alloc w1.drew o)
    have K2 : Hid (∀ o o', (fun w' => Below w.heap.size w w' ∧ w'.cell? ⟨w.heap.size, 0, none⟩ = some (.int .i64 G) ∧ w'.cell? ⟨w.heap.size, 1, none⟩ = some (.int .i64 R) ∧ w'.cell? ⟨w.heap.size, 2, none⟩ = some (.int .i64 S)) ((w1.alloc o).alloc o').drew) := fun o o' => unhide KP _ _ (unhide K1 o) (b_alloc (w1.alloc o).drew o')
    have KT := hide (Nw.two (unhide HB1) (unhide X0_1))
    go_region_held3 (fun w' => Below w.heap.size w w' ∧ w'.cell? ⟨w.heap.size, 0, none⟩ = some (.int .i64 G) ∧ w'.cell? ⟨w.heap.size, 1, none⟩ = some (.int .i64 R) ∧ w'.cell? ⟨w.heap.size, 2, none⟩ = some (.int .i64 S))
      (first | assumption | (exact unhide H0) | (exact unhide K1 _) | (exact unhide K2 _ _))
      (fail)
    all_goals (go_wp2_with fail; go_meet)
    · exact ⟨_, _, rfl, rfl, (unhide KT).1.then (Below.refl _ _).drew⟩
    · exact ⟨_, _, rfl, rfl, (unhide KT).2.then (Below.refl _ _).drew⟩
  case rest =>
  obtain ⟨p, q, rfl, rfl, hN⟩ := hcut
  have N0 := hide hN
  clear hN HB1 X0_1
  obtain ⟨_, p1, p2, pf⟩ := (unhide N0).2.2.1.cells
  have N1 := hide ((unhide N0).root root)
  obtain ⟨s0, s1, s2, _⟩ := (unhide N1).2.1.cells
  obtain ⟨r0, r1, r2, rf⟩ := (unhide N1).2.2.1.cells
  have N2 := hide ((unhide N1).gen (G + 1))
  obtain ⟨t0, t1, t2, _⟩ := (unhide N2).2.1.cells
  obtain ⟨q0, q1, q2, qf⟩ := (unhide N2).2.2.2.1.cells
  have N3 := hide ((unhide N2).gen' (G - 1))
  obtain ⟨u0, u1, u2, _⟩ := (unhide N3).2.1.cells
  go_wp2_with fail
  clear p1 p2 pf s0 s1 s2 r0 r1 r2 rf t0 t1 t2 q0 q1 q2 qf u0 u1 u2 N0 N1 N2
  generalize ((wc.setCell ⟨p, 1, none⟩ (.int .i64 root)).setCell ⟨p, 0, none⟩ (.int .i64 (G + 1))).setCell ⟨q, 0, none⟩ (.int .i64 (G - 1)) = wd at *
  obtain ⟨hb0, hx0, hx1, hx2, hp, hq, hpq⟩ := unhide N3
  have HBn := hide hb0
  have X0 := hide hx0
  have X1 := hide hx1
  have X2 := hide hx2
  have HPQ := hide (And.intro hp (And.intro hq hpq))
  clear N3 hb0 hx0 hx1 hx2 hp hq hpq
  refine (unhide H1 _ ((unhide HT).below (unhide HBn))).mono ?_
  unfold wrapped
  rintro e w2 ⟨rfl, hb⟩
  have HB2 := hide (below_then (unhide HBn) hb)
  have X0_2 := hide ((unhide X0).then hb)
  have X1_2 := hide ((unhide X1).then hb)
  have X2_2 := hide ((unhide X2).then hb)
  clear hb HBn X0 X1 X2
  obtain ⟨c00, c01, c02, _⟩ := (unhide X0_2).cells
  obtain ⟨c10, c11, c12, _⟩ := (unhide X1_2).cells
  obtain ⟨c20, c21, c22, _⟩ := (unhide X2_2).cells
  go_wp2_with fail
  clear c00 c01 c02 c10 c11 c12 c20 c21 c22
  refine (unhide H2 _ ((unhide HT).below (unhide HB2))).mono ?_
  unfold wrapped
  rintro e w3 ⟨rfl, hb⟩
  have HB3 := hide (below_then (unhide HB2) hb)
  have X0_3 := hide ((unhide X0_2).then hb)
  have X1_3 := hide ((unhide X1_2).then hb)
  have X2_3 := hide ((unhide X2_2).then hb)
  clear hb HB2 X0_2 X1_2 X2_2
  obtain ⟨c00, c01, c02, _⟩ := (unhide X0_3).cells
  obtain ⟨c10, c11, c12, _⟩ := (unhide X1_3).cells
  obtain ⟨c20, c21, c22, _⟩ := (unhide X2_3).cells
  go_wp2_with fail
  clear c00 c01 c02 c10 c11 c12 c20 c21 c22
  refine (unhide H3 _ ((unhide HT).below (unhide HB3))).mono ?_
  unfold wrapped
  rintro e w4 ⟨rfl, hb⟩
  have HB4 := hide (below_then (unhide HB3) hb)
  have X0_4 := hide ((unhide X0_3).then hb)
  have X1_4 := hide ((unhide X1_3).then hb)
  have X2_4 := hide ((unhide X2_3).then hb)
  clear hb HB3 X0_3 X1_3 X2_3
  have M0 := hide (Mz.new s (unhide HB4) (unhide X0_4) (unhide X1_4) (unhide HPQ).1)
  clear HB4 X0_4 X1_4 X2_4 HPQ H1 H2 H3
  obtain ⟨m0, m1, m2, m3, m4, m5, m6, m7, m8, m9, mf, mg⟩ := (unhide M0).facts
  go_wp2_with fail
  clear m0 m1 m2 m3 m4 m5 m6 m7 m8 m9 mf mg
  obtain ⟨a, hae⟩ : ∃ a, a = w4.heap.size := ⟨_, rfl⟩
  rw [← hae] at M0 ⊢
  clear hae
  generalize (w4.alloc (.cells #[.string s, .string s] 45)).alloc (.cells #[.string s, .string s] 45) = we at *
  obtain ⟨m0, m1, m2, m3, m4, m5, m6, m7, m8, m9, mf, mg⟩ := (unhide M0).facts
  refine (unhide H6 _).mono ?_
  rintro e we ⟨rfl, rfl⟩
  go_wp2_with fail
  clear m0 m1 m2 m3 m4 m5 m6 m7 m8 m9 mf mg
  have M1 := hide ((unhide M0).a0 u)
  clear M0
  generalize we.setCell ⟨a, 0, none⟩ (.string u) = wf at *
  have M2 := hide ((unhide M1).then (Below.refl _ _).drew)
  clear M1
  obtain ⟨m0, m1, m2, m3, m4, m5, m6, m7, m8, m9, mf, mg⟩ := (unhide M2).facts
  have M3 := hide ((unhide M2).b0 u)
  have H0 : Hid ((fun w' => w'.cell? ⟨p, 0, none⟩ = some (.int .i64 (G + 1))) wf.drew) := m3
  have H0' : Hid ((fun w' => w'.cell? ⟨p, 0, none⟩ = some (.int .i64 (G + 1))) (wf.drew.setCell ⟨a + 1, 0, none⟩ (.string u))) := (unhide M3).facts.2.2.2.1
  go_region_held3 (fun w' => w'.cell? ⟨p, 0, none⟩ = some (.int .i64 (G + 1)))
    (first | assumption | (exact unhide H0) | (exact unhide H0'))
    (first | (go_at_call 12; refine (unhide H6 _).mono ?_; rintro e wz ⟨rfl, hw⟩; subst hw))
  clear m0 m1 m2 m3 m4 m5 m6 m7 m8 m9 mf mg
  clear M2 H0 H0'
  have M3' : Hid (Mz w (wf.setCell ⟨a + 1, 0, none⟩ (.string u)).drew p a G R S (G + 1) root S u s u s) := M3
  clear M3
  generalize (wf.setCell ⟨a + 1, 0, none⟩ (.string u)).drew = wg at *
  have M3 := M3'
  clear M3'
  obtain ⟨m0, m1, m2, m3, m4, m5, m6, m7, m8, m9, mf, mg⟩ := (unhide M3).facts
  go_wp2_with fail
  clear m0 m1 m2 m3 m4 m5 m6 m7 m8 m9 mf mg
  refine (unhide H4 _ ((unhide HT).below (unhide M3).1)).mono ?_
  unfold sopened
  rintro e wh ⟨rfl, hb⟩
  have M4 := hide (((unhide M3).then hb).then (b_alloc wh (.cells #[.int .i64 (G + 1), .int .i64 root, .int .i64 S] 23)))
  have Y4 := hide (Bk.new wh (.int .i64 (G + 1)) (.int .i64 root) (.int .i64 S) 23)
  clear M3 hb
  obtain ⟨m0, m1, m2, m3, m4, m5, m6, m7, m8, m9, mf, mg⟩ := (unhide M4).facts
  go_wp2_with fail
  clear m0 m1 m2 m3 m4 m5 m6 m7 m8 m9 mf mg
  obtain ⟨d, hde⟩ : ∃ d, d = wh.heap.size := ⟨_, rfl⟩
  rw [← hde] at Y4 ⊢
  clear hde
  generalize wh.alloc (.cells #[.int .i64 (G + 1), .int .i64 root, .int .i64 S] 23) = wi at *
  refine (unhide H5 _ ((unhide HT).below (unhide M4).1)).mono ?_
  unfold sopened
  rintro e wj ⟨rfl, hb⟩
  have M5 := hide (((unhide M4).then hb).then (b_alloc wj (.cells #[.int .i64 (G + 1), .int .i64 root, .int .i64 S] 23)))
  have Y5 := hide (((unhide Y4).then hb).then (b_alloc wj (.cells #[.int .i64 (G + 1), .int .i64 root, .int .i64 S] 23)))
  clear M4 Y4 hb
  obtain ⟨m0, m1, m2, m3, m4, m5, m6, m7, m8, m9, mf, mg⟩ := (unhide M5).facts
  obtain ⟨y0, y1, y2, _⟩ := (unhide Y5).cells
  go_wp2
  go_ret
  exact ⟨rfl, (unhide M5).1⟩
theorem ch_first {z o : ByteArray} {G R S : Int} (hz : sopenR z = (G, R, S, 0)) (p : G % 2 = 0) (h : (sopenR o).2.2.2 ≠ 0 ∨ (sopenR o).1 % 2 ≠ 1 ∨ (sopenR o).1 < G) : chooseR z o = (G, R, S, 0) := by
  unfold chooseR
  rw [hz]
  rw [if_pos]
  refine ⟨⟨rfl, p⟩, ?_⟩
  rcases h with h | h | h
  · exact .inl (fun k => h k.1)
  · exact .inl (fun k => h k.2)
  · exact .inr h
theorem ch_second {z o : ByteArray} {G R S : Int} (ho : sopenR o = (G, R, S, 0)) (p : G % 2 = 1) (h : (sopenR z).2.2.2 ≠ 0 ∨ (sopenR z).1 % 2 ≠ 0 ∨ (sopenR z).1 ≤ G) : chooseR z o = (G, R, S, 0) := by
  unfold chooseR
  rw [ho]
  rw [if_neg, if_pos ⟨rfl, p⟩]
  intro k
  obtain ⟨⟨k1, k2⟩, k3⟩ := k
  rcases h with h | h | h
  · exact h k1
  · exact h k2
  · rcases k3 with k3 | k3
    · exact k3 ⟨rfl, p⟩
    · exact absurd (show G < (sopenR z).1 from k3) (by omega)
theorem snewer_any (G R S root cut : Int) (w : World) (hT : Tab w) : Calls Tryd.prog 8 #[.agg #[.int .i64 G, .int .i64 R, .int .i64 S], .int .i64 root, .int .i64 cut] w fun e w' => e = .returned (.bool true) ∧ Below w.heap.size w w' := by
  by_cases g0 : G < 1
  · exact snewer_g G R S root cut w hT g0
  by_cases g1 : 1152921504606846976 ≤ G
  · exact snewer_h G R S root cut w hT (by omega) g1
  by_cases c0 : cut < 0
  · exact snewer_i G R S root cut w hT (by omega) (by omega) c0
  by_cases c1 : 1024 < cut
  · exact snewer_j G R S root cut w hT (by omega) (by omega) (by omega) c1
  obtain ⟨c, rfl⟩ := Int.eq_ofNat_of_zero_le (show 0 ≤ cut by omega)
  have hc : c ≤ 1024 := by omega
  by_cases m1 : MayB G R S
  · by_cases m2 : MayB (G + 1) root S
    · have m3 : MayB (G - 1) R S := ⟨⟨by omega, by omega⟩, m1.2.1, m1.2.2⟩
      have h1 : swrapR G R S = ((swrapR G R S).1, 0) := by rw [swrapR_ok m1]
      have h2 : swrapR (G + 1) root S = ((swrapR (G + 1) root S).1, 0) := by rw [swrapR_ok m2]
      have h3 : swrapR (G - 1) R S = ((swrapR (G - 1) R S).1, 0) := by rw [swrapR_ok m3]
      have o1 := sopen_swrap m1
      have o2 := sopen_swrap m2
      have o3 := sopen_swrap m3
      have z2 := swrapR_size m2
      have z3 := swrapR_size m3
      have ht := torn_out m2 m3 (by omega) c hc
      have ha := and_two (G := G + 1) (by omega) (by omega)
      generalize (swrapR G R S).1 = s at *
      generalize (swrapR (G + 1) root S).1 = n at *
      generalize (swrapR (G - 1) R S).1 = m at *
      dsimp only at ht
      by_cases p : (G + 1) % 2 = 1
      · rw [p] at ha
        have hw : chooseR s n = (G + 1, root, S, 0) := ch_second o2 p (.inr (.inr (by rw [o1]; show G ≤ G + 1; omega)))
        rcases ht with h | ⟨h, _⟩ | ⟨_, h⟩
        · exact snewer_m1s G R S root c w hT (by omega) (by omega) c rfl hc s n m h1 h2 h3 z2 z3 ha _ rfl hw (ch_first o1 (by omega) (.inl h))
        · exact snewer_m1n G R S root c w hT (by omega) (by omega) c rfl hc s n m h1 h2 h3 z2 z3 ha _ rfl hw (by rw [h]; exact hw) h
        · exact snewer_m1s G R S root c w hT (by omega) (by omega) c rfl hc s n m h1 h2 h3 z2 z3 ha _ rfl hw (ch_first o1 (by omega) (.inr (.inr (by rw [h]; show G - 1 < G; omega))))
      · have p' : (G + 1) % 2 = 0 := by omega
        rw [p'] at ha
        have hw : chooseR n s = (G + 1, root, S, 0) := ch_first o2 p' (.inr (.inr (by rw [o1]; show G < G + 1; omega)))
        rcases ht with h | ⟨h, _⟩ | ⟨_, h⟩
        · exact snewer_m0s G R S root c w hT (by omega) (by omega) c rfl hc s n m h1 h2 h3 z2 z3 ha _ rfl hw (ch_second o1 (by omega) (.inl h))
        · exact snewer_m0n G R S root c w hT (by omega) (by omega) c rfl hc s n m h1 h2 h3 z2 z3 ha _ rfl hw (by rw [h]; exact hw) h
        · exact snewer_m0s G R S root c w hT (by omega) (by omega) c rfl hc s n m h1 h2 h3 z2 z3 ha _ rfl hw (ch_second o1 (by omega) (.inr (.inr (by rw [h]; show G - 1 ≤ G; omega))))
    · exact snewer_e2 G R S root c w hT (by omega) (by omega) c rfl hc (swrapR G R S).1 ⟨#[]⟩ (swrapR (G - 1) R S).1 101 (swrapR (G - 1) R S).2 (by decide) (by rw [swrapR_ok m1]) (swrapR_no m2) rfl
  · exact snewer_e1 G R S root c w hT (by omega) (by omega) c rfl hc ⟨#[]⟩ (swrapR (G + 1) root S).1 (swrapR (G - 1) R S).1 101 (swrapR (G + 1) root S).2 (swrapR (G - 1) R S).2 (by decide) (swrapR_no m1) rfl rfl
end Go.Proofs.YtdkgifjmahkiaaaDoor
