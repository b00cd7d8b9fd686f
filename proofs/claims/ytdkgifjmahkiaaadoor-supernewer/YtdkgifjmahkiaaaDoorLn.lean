/- The walk of the law SuperNewer. -/
import Derived.Test.YtdkgifjmahkiaaaDoorLt
namespace Go.Proofs.YtdkgifjmahkiaaaDoor
open Go.ChangeShapes Go.WideShapes Go.ChangeAt Go.RowKit
open L4

/-- the super, and its two copies -/
def Nw (w wc : World) (p q : Nat) (G R S a b c x y z : Int) : Prop := Below w.heap.size w wc ∧ Bk wc w.heap.size (.int .i64 G) (.int .i64 R) (.int .i64 S) 23 ∧ Bk wc p (.int .i64 a) (.int .i64 b) (.int .i64 c) 23 ∧ Bk wc q (.int .i64 x) (.int .i64 y) (.int .i64 z) 23 ∧ w.heap.size < p ∧ w.heap.size < q ∧ p ≠ q
theorem Bk.set0 {w : World} {b : Nat} {x y z : Value} {t : TypeId} (h : Bk w b x y z t) (v : Value) : Bk (w.setCell ⟨b, 0, none⟩ v) b v y z t := by
  unfold Bk at *
  simp [World.setCell, Array.getElem?_modify, h]
theorem Bk.set1 {w : World} {b : Nat} {x y z : Value} {t : TypeId} (h : Bk w b x y z t) (v : Value) : Bk (w.setCell ⟨b, 1, none⟩ v) b x v z t := by
  unfold Bk at *
  simp [World.setCell, Array.getElem?_modify, h]
theorem Nw.root {w wc : World} {p q : Nat} {G R S a b c x y z : Int} (h : Nw w wc p q G R S a b c x y z) (v : Int) : Nw w (wc.setCell ⟨p, 1, none⟩ (.int .i64 v)) p q G R S a v c x y z := by
  obtain ⟨h1, h2, h3, h4, h5, h6, h7⟩ := h
  exact ⟨below_set h1 (Nat.le_of_lt h5), h2.other _ _ _ (by omega), h3.set1 _, h4.other _ _ _ (by omega), h5, h6, h7⟩
theorem Nw.gen {w wc : World} {p q : Nat} {G R S a b c x y z : Int} (h : Nw w wc p q G R S a b c x y z) (v : Int) : Nw w (wc.setCell ⟨p, 0, none⟩ (.int .i64 v)) p q G R S v b c x y z := by
  obtain ⟨h1, h2, h3, h4, h5, h6, h7⟩ := h
  exact ⟨below_set h1 (Nat.le_of_lt h5), h2.other _ _ _ (by omega), h3.set0 _, h4.other _ _ _ (by omega), h5, h6, h7⟩
theorem Nw.gen' {w wc : World} {p q : Nat} {G R S a b c x y z : Int} (h : Nw w wc p q G R S a b c x y z) (v : Int) : Nw w (wc.setCell ⟨q, 0, none⟩ (.int .i64 v)) p q G R S a b c v y z := by
  obtain ⟨h1, h2, h3, h4, h5, h6, h7⟩ := h
  exact ⟨below_set h1 (Nat.le_of_lt h6), h2.other _ _ _ (by omega), h3.other _ _ _ (by omega), h4.set0 _, h5, h6, h7⟩
theorem Nw.then {w wc wd : World} {p q : Nat} {G R S a b c x y z : Int} (h : Nw w wc p q G R S a b c x y z) (hb : Below wc.heap.size wc wd) : Nw w wd p q G R S a b c x y z :=
  ⟨below_then h.1 hb, h.2.1.then hb, h.2.2.1.then hb, h.2.2.2.1.then hb, h.2.2.2.2⟩
theorem Nw.two {w w1 : World} {G R S : Int} (hb : Below w.heap.size w w1) (h : Bk w1 w.heap.size (.int .i64 G) (.int .i64 R) (.int .i64 S) 23) :
    Nw w ((w1.alloc (.cells #[.int .i64 G, .int .i64 R, .int .i64 S] 23)).alloc (.cells #[.int .i64 G, .int .i64 R, .int .i64 S] 23)) w1.heap.size (w1.heap.size + 1) G R S G R S G R S ∧
    Nw w ((w1.alloc (.cells #[.int .i64 G, .int .i64 R, .int .i64 S] 23)).alloc (.cells #[.int .i64 G, .int .i64 R, .int .i64 S] 23)) (w1.heap.size + 1) w1.heap.size G R S G R S G R S := by
  have e : (w1.alloc (.cells #[.int .i64 G, .int .i64 R, .int .i64 S] 23)).heap.size = w1.heap.size + 1 := by simp
  have h1 := (Bk.new w1 (.int .i64 G) (.int .i64 R) (.int .i64 S) 23).then (b_alloc (w1.alloc (.cells #[.int .i64 G, .int .i64 R, .int .i64 S] 23)) (.cells #[.int .i64 G, .int .i64 R, .int .i64 S] 23))
  have h2 := Bk.new (w1.alloc (.cells #[.int .i64 G, .int .i64 R, .int .i64 S] 23)) (.int .i64 G) (.int .i64 R) (.int .i64 S) 23
  rw [e] at h2
  have hB := below_then (below_then hb (b_alloc w1 (.cells #[.int .i64 G, .int .i64 R, .int .i64 S] 23))) (b_alloc (w1.alloc (.cells #[.int .i64 G, .int .i64 R, .int .i64 S] 23)) (.cells #[.int .i64 G, .int .i64 R, .int .i64 S] 23))
  have h0 := (h.then (b_alloc w1 (.cells #[.int .i64 G, .int .i64 R, .int .i64 S] 23))).then (b_alloc (w1.alloc (.cells #[.int .i64 G, .int .i64 R, .int .i64 S] 23)) (.cells #[.int .i64 G, .int .i64 R, .int .i64 S] 23))
  have hlt := h.lt
  exact ⟨⟨hB, h0, h1, h2, hlt, by omega, by omega⟩, ⟨hB, h0, h2, h1, by omega, hlt, by omega⟩⟩

set_option maxRecDepth 10000 in
set_option maxHeartbeats 2000000 in
theorem snewer_g (G R S root cut : Int) (w : World) (hT : Tab w) (hc : G < 1) : Calls Tryd.prog 8 #[.agg #[.int .i64 G, .int .i64 R, .int .i64 S], .int .i64 root, .int .i64 cut] w fun e w' => e = .returned (.bool true) ∧ Below w.heap.size w w' := by
  have hA := fun W (hW : Tab W) => awake_any W hW
  have HT := hide hT
  have HA := hide hA
  clear hT hA
  go_enter Tryd.func8, Tryd.ntmps8
  go_wp2_with fail
  have HB0 := hide (b_alloc w (.cells #[.int .i64 G, .int .i64 R, .int .i64 S] 23))
  have X0 := hide (Bk.new w (.int .i64 G) (.int .i64 R) (.int .i64 S) 23)
  generalize w.alloc (.cells #[.int .i64 G, .int .i64 R, .int .i64 S] 23) = w0 at *
  refine (unhide HA _ ((unhide HT).below (unhide HB0))).mono ?_
  rintro e w1 ⟨rfl, hb⟩
  have HB1 := hide (below_then (unhide HB0) hb)
  have X0_1 := hide ((unhide X0).then hb)
  clear hb HB0 X0
  go_upto_region 3 with fail
  go_cut [7, 8] (fun s7 s8 wc => ∃ p q, s7 = .pointer (some ⟨p, 0, none⟩) ∧ s8 = .pointer (some ⟨q, 0, none⟩) ∧ Nw w wc p q G R S G R S G R S)
  case first =>
    have KP : Hid (∀ wa wb, (fun w' => Below w.heap.size w w' ∧ w'.cell? ⟨w.heap.size, 0, none⟩ = some (.int .i64 G) ∧ w'.cell? ⟨w.heap.size, 1, none⟩ = some (.int .i64 R) ∧ w'.cell? ⟨w.heap.size, 2, none⟩ = some (.int .i64 S)) wa → Below wa.heap.size wa wb → (fun w' => Below w.heap.size w w' ∧ w'.cell? ⟨w.heap.size, 0, none⟩ = some (.int .i64 G) ∧ w'.cell? ⟨w.heap.size, 1, none⟩ = some (.int .i64 R) ∧ w'.cell? ⟨w.heap.size, 2, none⟩ = some (.int .i64 S)) wb) := fun wa wb h hb => ⟨below_then h.1 hb, (hb.cell (World.block_lt_of_cell? wa _ h.2.1)).trans h.2.1, (hb.cell (World.block_lt_of_cell? wa _ h.2.2.1)).trans h.2.2.1, (hb.cell (World.block_lt_of_cell? wa _ h.2.2.2)).trans h.2.2.2⟩
    have H0 : Hid ((fun w' => Below w.heap.size w w' ∧ w'.cell? ⟨w.heap.size, 0, none⟩ = some (.int .i64 G) ∧ w'.cell? ⟨w.heap.size, 1, none⟩ = some (.int .i64 R) ∧ w'.cell? ⟨w.heap.size, 2, none⟩ = some (.int .i64 S)) w1.drew) := ⟨(unhide HB1).drew, (unhide X0_1).cells.1, (unhide X0_1).cells.2.1, (unhide X0_1).cells.2.2.1⟩
    have K1 : Hid (∀ o, (fun w' => Below w.heap.size w w' ∧ w'.cell? ⟨w.heap.size, 0, none⟩ = some (.int .i64 G) ∧ w'.cell? ⟨w.heap.size, 1, none⟩ = some (.int .i64 R) ∧ w'.cell? ⟨w.heap.size, 2, none⟩ = some (.int .i64 S)) (w1.alloc o).drew) := fun o => unhide KP _ _ (unhide H0) (b_alloc w1.drew o)
    have K2 : Hid (∀ o o', (fun w' => Below w.heap.size w w' ∧ w'.cell? ⟨w.heap.size, 0, none⟩ = some (.int .i64 G) ∧ w'.cell? ⟨w.heap.size, 1, none⟩ = some (.int .i64 R) ∧ w'.cell? ⟨w.heap.size, 2, none⟩ = some (.int .i64 S)) ((w1.alloc o).alloc o').drew) := fun o o' => unhide KP _ _ (unhide K1 o) (b_alloc (w1.alloc o).drew o')
    have KT := hide (Nw.two (unhide HB1) (unhide X0_1))
    go_region_held3 (fun w' => Below w.heap.size w w' ∧ w'.cell? ⟨w.heap.size, 0, none⟩ = some (.int .i64 G) ∧ w'.cell? ⟨w.heap.size, 1, none⟩ = some (.int .i64 R) ∧ w'.cell? ⟨w.heap.size, 2, none⟩ = some (.int .i64 S))
      (first | assumption | (exact unhide H0) | (exact unhide K1 _) | (exact unhide K2 _ _))
      (fail)
    all_goals (go_wp2_with fail; go_meet)
    · exact ⟨_, _, rfl, rfl, (unhide KT).1.then (Below.refl _ _).drew⟩
    · exact ⟨_, _, rfl, rfl, (unhide KT).2.then (Below.refl _ _).drew⟩
  case rest =>
  obtain ⟨p, q, rfl, rfl, hN⟩ := hcut
  have N0 := hide hN
  clear hN HB1 X0_1
  obtain ⟨_, p1, p2, pf⟩ := (unhide N0).2.2.1.cells
  have N1 := hide ((unhide N0).root root)
  obtain ⟨s0, s1, s2, _⟩ := (unhide N1).2.1.cells
  go_wp2
  go_ret
  exact ⟨rfl, (unhide N1).1⟩
set_option maxRecDepth 10000 in
set_option maxHeartbeats 2000000 in
theorem snewer_h (G R S root cut : Int) (w : World) (hT : Tab w) (hc : 1 ≤ G) (hd : 1152921504606846976 ≤ G) : Calls Tryd.prog 8 #[.agg #[.int .i64 G, .int .i64 R, .int .i64 S], .int .i64 root, .int .i64 cut] w fun e w' => e = .returned (.bool true) ∧ Below w.heap.size w w' := by
  have hA := fun W (hW : Tab W) => awake_any W hW
  have HT := hide hT
  have HA := hide hA
  clear hT hA
  go_enter Tryd.func8, Tryd.ntmps8
  go_wp2_with fail
  have HB0 := hide (b_alloc w (.cells #[.int .i64 G, .int .i64 R, .int .i64 S] 23))
  have X0 := hide (Bk.new w (.int .i64 G) (.int .i64 R) (.int .i64 S) 23)
  generalize w.alloc (.cells #[.int .i64 G, .int .i64 R, .int .i64 S] 23) = w0 at *
  refine (unhide HA _ ((unhide HT).below (unhide HB0))).mono ?_
  rintro e w1 ⟨rfl, hb⟩
  have HB1 := hide (below_then (unhide HB0) hb)
  have X0_1 := hide ((unhide X0).then hb)
  clear hb HB0 X0
  go_upto_region 3 with fail
  go_cut [7, 8] (fun s7 s8 wc => ∃ p q, s7 = .pointer (some ⟨p, 0, none⟩) ∧ s8 = .pointer (some ⟨q, 0, none⟩) ∧ Nw w wc p q G R S G R S G R S)
  case first =>
    have KP : Hid (∀ wa wb, (fun w' => Below w.heap.size w w' ∧ w'.cell? ⟨w.heap.size, 0, none⟩ = some (.int .i64 G) ∧ w'.cell? ⟨w.heap.size, 1, none⟩ = some (.int .i64 R) ∧ w'.cell? ⟨w.heap.size, 2, none⟩ = some (.int .i64 S)) wa → Below wa.heap.size wa wb → (fun w' => Below w.heap.size w w' ∧ w'.cell? ⟨w.heap.size, 0, none⟩ = some (.int .i64 G) ∧ w'.cell? ⟨w.heap.size, 1, none⟩ = some (.int .i64 R) ∧ w'.cell? ⟨w.heap.size, 2, none⟩ = some (.int .i64 S)) wb) := fun wa wb h hb => ⟨below_then h.1 hb, (hb.cell (World.block_lt_of_cell? wa _ h.2.1)).trans h.2.1, (hb.cell (World.block_lt_of_cell? wa _ h.2.2.1)).trans h.2.2.1, (hb.cell (World.block_lt_of_cell? wa _ h.2.2.2)).trans h.2.2.2⟩
    have H0 : Hid ((fun w' => Below w.heap.size w w' ∧ w'.cell? ⟨w.heap.size, 0, none⟩ = some (.int .i64 G) ∧ w'.cell? ⟨w.heap.size, 1, none⟩ = some (.int .i64 R) ∧ w'.cell? ⟨w.heap.size, 2, none⟩ = some (.int .i64 S)) w1.drew) := ⟨(unhide HB1).drew, (unhide X0_1).cells.1, (unhide X0_1).cells.2.1, (unhide X0_1).cells.2.2.1⟩
    have K1 : Hid (∀ o, (fun w' => Below w.heap.size w w' ∧ w'.cell? ⟨w.heap.size, 0, none⟩ = some (.int .i64 G) ∧ w'.cell? ⟨w.heap.size, 1, none⟩ = some (.int .i64 R) ∧ w'.cell? ⟨w.heap.size, 2, none⟩ = some (.int .i64 S)) (w1.alloc o).drew) := fun o => unhide KP _ _ (unhide H0) (b_alloc w1.drew o)
    have K2 : Hid (∀ o o', (fun w' => Below w.heap.size w w' ∧ w'.cell? ⟨w.heap.size, 0, none⟩ = some (.int .i64 G) ∧ w'.cell? ⟨w.heap.size, 1, none⟩ = some (.int .i64 R) ∧ w'.cell? ⟨w.heap.size, 2, none⟩ = some (.int .i64 S)) ((w1.alloc o).alloc o').drew) := fun o o' => unhide KP _ _ (unhide K1 o) (b_alloc (w1.alloc o).drew o')
    have KT := hide (Nw.two (unhide HB1) (unhide X0_1))
    go_region_held3 (fun w' => Below w.heap.size w w' ∧ w'.cell? ⟨w.heap.size, 0, none⟩ = some (.int .i64 G) ∧ w'.cell? ⟨w.heap.size, 1, none⟩ = some (.int .i64 R) ∧ w'.cell? ⟨w.heap.size, 2, none⟩ = some (.int .i64 S))
      (first | assumption | (exact unhide H0) | (exact unhide K1 _) | (exact unhide K2 _ _))
      (fail)
    all_goals (go_wp2_with fail; go_meet)
    · exact ⟨_, _, rfl, rfl, (unhide KT).1.then (Below.refl _ _).drew⟩
    · exact ⟨_, _, rfl, rfl, (unhide KT).2.then (Below.refl _ _).drew⟩
  case rest =>
  obtain ⟨p, q, rfl, rfl, hN⟩ := hcut
  have N0 := hide hN
  clear hN HB1 X0_1
  obtain ⟨_, p1, p2, pf⟩ := (unhide N0).2.2.1.cells
  have N1 := hide ((unhide N0).root root)
  obtain ⟨s0, s1, s2, _⟩ := (unhide N1).2.1.cells
  go_wp2
  go_ret
  exact ⟨rfl, (unhide N1).1⟩
set_option maxRecDepth 10000 in
set_option maxHeartbeats 2000000 in
theorem snewer_i (G R S root cut : Int) (w : World) (hT : Tab w) (hc : 1 ≤ G) (hd : G < 1152921504606846976) (he : cut < 0) : Calls Tryd.prog 8 #[.agg #[.int .i64 G, .int .i64 R, .int .i64 S], .int .i64 root, .int .i64 cut] w fun e w' => e = .returned (.bool true) ∧ Below w.heap.size w w' := by
  have hA := fun W (hW : Tab W) => awake_any W hW
  have HT := hide hT
  have HA := hide hA
  clear hT hA
  go_enter Tryd.func8, Tryd.ntmps8
  go_wp2_with fail
  have HB0 := hide (b_alloc w (.cells #[.int .i64 G, .int .i64 R, .int .i64 S] 23))
  have X0 := hide (Bk.new w (.int .i64 G) (.int .i64 R) (.int .i64 S) 23)
  generalize w.alloc (.cells #[.int .i64 G, .int .i64 R, .int .i64 S] 23) = w0 at *
  refine (unhide HA _ ((unhide HT).below (unhide HB0))).mono ?_
  rintro e w1 ⟨rfl, hb⟩
  have HB1 := hide (below_then (unhide HB0) hb)
  have X0_1 := hide ((unhide X0).then hb)
  clear hb HB0 X0
  go_upto_region 3 with fail
  go_cut [7, 8] (fun s7 s8 wc => ∃ p q, s7 = .pointer (some ⟨p, 0, none⟩) ∧ s8 = .pointer (some ⟨q, 0, none⟩) ∧ Nw w wc p q G R S G R S G R S)
  case first =>
    have KP : Hid (∀ wa wb, (fun w' => Below w.heap.size w w' ∧ w'.cell? ⟨w.heap.size, 0, none⟩ = some (.int .i64 G) ∧ w'.cell? ⟨w.heap.size, 1, none⟩ = some (.int .i64 R) ∧ w'.cell? ⟨w.heap.size, 2, none⟩ = some (.int .i64 S)) wa → Below wa.heap.size wa wb → (fun w' => Below w.heap.size w w' ∧ w'.cell? ⟨w.heap.size, 0, none⟩ = some (.int .i64 G) ∧ w'.cell? ⟨w.heap.size, 1, none⟩ = some (.int .i64 R) ∧ w'.cell? ⟨w.heap.size, 2, none⟩ = some (.int .i64 S)) wb) := fun wa wb h hb => ⟨below_then h.1 hb, (hb.cell (World.block_lt_of_cell? wa _ h.2.1)).trans h.2.1, (hb.cell (World.block_lt_of_cell? wa _ h.2.2.1)).trans h.2.2.1, (hb.cell (World.block_lt_of_cell? wa _ h.2.2.2)).trans h.2.2.2⟩
    have H0 : Hid ((fun w' => Below w.heap.size w w' ∧ w'.cell? ⟨w.heap.size, 0, none⟩ = some (.int .i64 G) ∧ w'.cell? ⟨w.heap.size, 1, none⟩ = some (.int .i64 R) ∧ w'.cell? ⟨w.heap.size, 2, none⟩ = some (.int .i64 S)) w1.drew) := ⟨(unhide HB1).drew, (unhide X0_1).cells.1, (unhide X0_1).cells.2.1, (unhide X0_1).cells.2.2.1⟩
    have K1 : Hid (∀ o, (fun w' => Below w.heap.size w w' ∧ w'.cell? ⟨w.heap.size, 0, none⟩ = some (.int .i64 G) ∧ w'.cell? ⟨w.heap.size, 1, none⟩ = some (.int .i64 R) ∧ w'.cell? ⟨w.heap.size, 2, none⟩ = some (.int .i64 S)) (w1.alloc o).drew) := fun o => unhide KP _ _ (unhide H0) (b_alloc w1.drew o)
    have K2 : Hid (∀ o o', (fun w' => Below w.heap.size w w' ∧ w'.cell? ⟨w.heap.size, 0, none⟩ = some (.int .i64 G) ∧ w'.cell? ⟨w.heap.size, 1, none⟩ = some (.int .i64 R) ∧ w'.cell? ⟨w.heap.size, 2, none⟩ = some (.int .i64 S)) ((w1.alloc o).alloc o').drew) := fun o o' => unhide KP _ _ (unhide K1 o) (b_alloc (w1.alloc o).drew o')
    have KT := hide (Nw.two (unhide HB1) (unhide X0_1))
    go_region_held3 (fun w' => Below w.heap.size w w' ∧ w'.cell? ⟨w.heap.size, 0, none⟩ = some (.int .i64 G) ∧ w'.cell? ⟨w.heap.size, 1, none⟩ = some (.int .i64 R) ∧ w'.cell? ⟨w.heap.size, 2, none⟩ = some (.int .i64 S))
      (first | assumption | (exact unhide H0) | (exact unhide K1 _) | (exact unhide K2 _ _))
      (fail)
    all_goals (go_wp2_with fail; go_meet)
    · exact ⟨_, _, rfl, rfl, (unhide KT).1.then (Below.refl _ _).drew⟩
    · exact ⟨_, _, rfl, rfl, (unhide KT).2.then (Below.refl _ _).drew⟩
  case rest =>
  obtain ⟨p, q, rfl, rfl, hN⟩ := hcut
  have N0 := hide hN
  clear hN HB1 X0_1
  obtain ⟨_, p1, p2, pf⟩ := (unhide N0).2.2.1.cells
  have N1 := hide ((unhide N0).root root)
  obtain ⟨s0, s1, s2, _⟩ := (unhide N1).2.1.cells
  go_wp2
  go_ret
  exact ⟨rfl, (unhide N1).1⟩
set_option maxRecDepth 10000 in
set_option maxHeartbeats 2000000 in
theorem snewer_j (G R S root cut : Int) (w : World) (hT : Tab w) (hc : 1 ≤ G) (hd : G < 1152921504606846976) (he : 0 ≤ cut) (hf : 1024 < cut) : Calls Tryd.prog 8 #[.agg #[.int .i64 G, .int .i64 R, .int .i64 S], .int .i64 root, .int .i64 cut] w fun e w' => e = .returned (.bool true) ∧ Below w.heap.size w w' := by
  have hA := fun W (hW : Tab W) => awake_any W hW
  have HT := hide hT
  have HA := hide hA
  clear hT hA
  go_enter Tryd.func8, Tryd.ntmps8
  go_wp2_with fail
  have HB0 := hide (b_alloc w (.cells #[.int .i64 G, .int .i64 R, .int .i64 S] 23))
  have X0 := hide (Bk.new w (.int .i64 G) (.int .i64 R) (.int .i64 S) 23)
  generalize w.alloc (.cells #[.int .i64 G, .int .i64 R, .int .i64 S] 23) = w0 at *
  refine (unhide HA _ ((unhide HT).below (unhide HB0))).mono ?_
  rintro e w1 ⟨rfl, hb⟩
  have HB1 := hide (below_then (unhide HB0) hb)
  have X0_1 := hide ((unhide X0).then hb)
  clear hb HB0 X0
  go_upto_region 3 with fail
  go_cut [7, 8] (fun s7 s8 wc => ∃ p q, s7 = .pointer (some ⟨p, 0, none⟩) ∧ s8 = .pointer (some ⟨q, 0, none⟩) ∧ Nw w wc p q G R S G R S G R S)
  case first =>
    have KP : Hid (∀ wa wb, (fun w' => Below w.heap.size w w' ∧ w'.cell? ⟨w.heap.size, 0, none⟩ = some (.int .i64 G) ∧ w'.cell? ⟨w.heap.size, 1, none⟩ = some (.int .i64 R) ∧ w'.cell? ⟨w.heap.size, 2, none⟩ = some (.int .i64 S)) wa → Below wa.heap.size wa wb → (fun w' => Below w.heap.size w w' ∧ w'.cell? ⟨w.heap.size, 0, none⟩ = some (.int .i64 G) ∧ w'.cell? ⟨w.heap.size, 1, none⟩ = some (.int .i64 R) ∧ w'.cell? ⟨w.heap.size, 2, none⟩ = some (.int .i64 S)) wb) := fun wa wb h hb => ⟨below_then h.1 hb, (hb.cell (World.block_lt_of_cell? wa _ h.2.1)).trans h.2.1, (hb.cell (World.block_lt_of_cell? wa _ h.2.2.1)).trans h.2.2.1, (hb.cell (World.block_lt_of_cell? wa _ h.2.2.2)).trans h.2.2.2⟩
    have H0 : Hid ((fun w' => Below w.heap.size w w' ∧ w'.cell? ⟨w.heap.size, 0, none⟩ = some (.int .i64 G) ∧ w'.cell? ⟨w.heap.size, 1, none⟩ = some (.int .i64 R) ∧ w'.cell? ⟨w.heap.size, 2, none⟩ = some (.int .i64 S)) w1.drew) := ⟨(unhide HB1).drew, (unhide X0_1).cells.1, (unhide X0_1).cells.2.1, (unhide X0_1).cells.2.2.1⟩
    have K1 : Hid (∀ o, (fun w' => Below w.heap.size w w' ∧ w'.cell? ⟨w.heap.size, 0, none⟩ = some (.int .i64 G) ∧ w'.cell? ⟨w.heap.size, 1, none⟩ = some (.int .i64 R) ∧ w'.cell? ⟨w.heap.size, 2, none⟩ = some (.int .i64 S)) (w1.alloc o).drew) := fun o => unhide KP _ _ (unhide H0) (b_alloc w1.drew o)
    have K2 : Hid (∀ o o', (fun w' => Below w.heap.size w w' ∧ w'.cell? ⟨w.heap.size, 0, none⟩ = some (.int .i64 G) ∧ w'.cell? ⟨w.heap.size, 1, none⟩ = some (.int .i64 R) ∧ w'.cell? ⟨w.heap.size, 2, none⟩ = some (.int .i64 S)) ((w1.alloc o).alloc o').drew) := fun o o' => unhide KP _ _ (unhide K1 o) (b_alloc (w1.alloc o).drew o')
    have KT := hide (Nw.two (unhide HB1) (unhide X0_1))
    go_region_held3 (fun w' => Below w.heap.size w w' ∧ w'.cell? ⟨w.heap.size, 0, none⟩ = some (.int .i64 G) ∧ w'.cell? ⟨w.heap.size, 1, none⟩ = some (.int .i64 R) ∧ w'.cell? ⟨w.heap.size, 2, none⟩ = some (.int .i64 S))
      (first | assumption | (exact unhide H0) | (exact unhide K1 _) | (exact unhide K2 _ _))
      (fail)
    all_goals (go_wp2_with fail; go_meet)
    · exact ⟨_, _, rfl, rfl, (unhide KT).1.then (Below.refl _ _).drew⟩
    · exact ⟨_, _, rfl, rfl, (unhide KT).2.then (Below.refl _ _).drew⟩
  case rest =>
  obtain ⟨p, q, rfl, rfl, hN⟩ := hcut
  have N0 := hide hN
  clear hN HB1 X0_1
  obtain ⟨_, p1, p2, pf⟩ := (unhide N0).2.2.1.cells
  have N1 := hide ((unhide N0).root root)
  obtain ⟨s0, s1, s2, _⟩ := (unhide N1).2.1.cells
  go_wp2
  go_ret
  exact ⟨rfl, (unhide N1).1⟩
set_option maxRecDepth 10000 in
set_option maxHeartbeats 2000000 in
theorem snewer_e1 (G R S root cut : Int) (w : World) (hT : Tab w) (hc : 1 ≤ G) (hd : G < 1152921504606846976) (c : Nat) (hcut : cut = (c : Int)) (he : c ≤ 1024) (s n m : ByteArray) (D E F : Nat) (hE : D ≠ 0) (h1 : swrapR G R S = (s, D)) (h2 : swrapR (G + 1) root S = (n, E)) (h3 : swrapR (G - 1) R S = (m, F)) : Calls Tryd.prog 8 #[.agg #[.int .i64 G, .int .i64 R, .int .i64 S], .int .i64 root, .int .i64 cut] w fun e w' => e = .returned (.bool true) ∧ Below w.heap.size w w' := by
  have hA := fun W (hW : Tab W) => awake_any W hW
  subst hcut
  have k1 := fun W (hW : Tab W) => swrap_any G R S W hW
  have k2 := fun W (hW : Tab W) => swrap_any (G + 1) root S W hW
  have k3 := fun W (hW : Tab W) => swrap_any (G - 1) R S W hW
  rw [h1] at k1
  rw [h2] at k2
  rw [h3] at k3
  have H1 := hide k1
  have H2 := hide k2
  have H3 := hide k3
  have e1 : ((D : Int) == 0) = false := beq_eq_false_iff_ne.2 (by omega)
  have e2 : ((D : Int) != 0) = true := bne_iff_ne.2 (by omega)
  clear hE
  clear k1 k2 k3 h1 h2 h3
  have HT := hide hT
  have HA := hide hA
  clear hT hA
  go_enter Tryd.func8, Tryd.ntmps8
  go_wp2_with fail
  have HB0 := hide (b_alloc w (.cells #[.int .i64 G, .int .i64 R, .int .i64 S] 23))
  have X0 := hide (Bk.new w (.int .i64 G) (.int .i64 R) (.int .i64 S) 23)
  generalize w.alloc (.cells #[.int .i64 G, .int .i64 R, .int .i64 S] 23) = w0 at *
  refine (unhide HA _ ((unhide HT).below (unhide HB0))).mono ?_
  rintro e w1 ⟨rfl, hb⟩
  have HB1 := hide (below_then (unhide HB0) hb)
  have X0_1 := hide ((unhide X0).then hb)
  clear hb HB0 X0
  go_upto_region 3 with fail
  go_cut [7, 8] (fun s7 s8 wc => ∃ p q, s7 = .pointer (some ⟨p, 0, none⟩) ∧ s8 = .pointer (some ⟨q, 0, none⟩) ∧ Nw w wc p q G R S G R S G R S)
  case first =>
    have KP : Hid (∀ wa wb, (fun w' => Below w.heap.size w w' ∧ w'.cell? ⟨w.heap.size, 0, none⟩ = some (.int .i64 G) ∧ w'.cell? ⟨w.heap.size, 1, none⟩ = some (.int .i64 R) ∧ w'.cell? ⟨w.heap.size, 2, none⟩ = some (.int .i64 S)) wa → Below wa.heap.size wa wb → (fun w' => Below w.heap.size w w' ∧ w'.cell? ⟨w.heap.size, 0, none⟩ = some (.int .i64 G) ∧ w'.cell? ⟨w.heap.size, 1, none⟩ = some (.int .i64 R) ∧ w'.cell? ⟨w.heap.size, 2, none⟩ = some (.int .i64 S)) wb) := fun wa wb h hb => ⟨below_then h.1 hb, (hb.cell (World.block_lt_of_cell? wa _ h.2.1)).trans h.2.1, (hb.cell (World.block_lt_of_cell? wa _ h.2.2.1)).trans h.2.2.1, (hb.cell (World.block_lt_of_cell? wa _ h.2.2.2)).trans h.2.2.2⟩
    have H0 : Hid ((fun w' => Below w.heap.size w w' ∧ w'.cell? ⟨w.heap.size, 0, none⟩ = some (.int .i64 G) ∧ w'.cell? ⟨w.heap.size, 1, none⟩ = some (.int .i64 R) ∧ w'.cell? ⟨w.heap.size, 2, none⟩ = some (.int .i64 S)) w1.drew) := ⟨(unhide HB1).drew, (unhide X0_1).cells.1, (unhide X0_1).cells.2.1, (unhide X0_1).cells.2.2.1⟩
    have K1 : Hid (∀ o, (fun w' => Below w.heap.size w w' ∧ w'.cell? ⟨w.heap.size, 0, none⟩ = some (.int .i64 G) ∧ w'.cell? ⟨w.heap.size, 1, none⟩ = some (.int .i64 R) ∧ w'.cell? ⟨w.heap.size, 2, none⟩ = some (.int .i64 S)) (w1.alloc o).drew) := fun o => unhide KP _ _ (unhide H0) (b_alloc w1.drew o)
    have K2 : Hid (∀ o o', (fun w' => Below w.heap.size w w' ∧ w'.cell? ⟨w.heap.size, 0, none⟩ = some (.int .i64 G) ∧ w'.cell? ⟨w.heap.size, 1, none⟩ = some (.int .i64 R) ∧ w'.cell? ⟨w.heap.size, 2, none⟩ = some (.int .i64 S)) ((w1.alloc o).alloc o').drew) := fun o o' => unhide KP _ _ (unhide K1 o) (b_alloc (w1.alloc o).drew o')
    have KT := hide (Nw.two (unhide HB1) (unhide X0_1))
    go_region_held3 (fun w' => Below w.heap.size w w' ∧ w'.cell? ⟨w.heap.size, 0, none⟩ = some (.int .i64 G) ∧ w'.cell? ⟨w.heap.size, 1, none⟩ = some (.int .i64 R) ∧ w'.cell? ⟨w.heap.size, 2, none⟩ = some (.int .i64 S))
      (first | assumption | (exact unhide H0) | (exact unhide K1 _) | (exact unhide K2 _ _))
      (fail)
    all_goals (go_wp2_with fail; go_meet)
    · exact ⟨_, _, rfl, rfl, (unhide KT).1.then (Below.refl _ _).drew⟩
    · exact ⟨_, _, rfl, rfl, (unhide KT).2.then (Below.refl _ _).drew⟩
  case rest =>
  obtain ⟨p, q, rfl, rfl, hN⟩ := hcut
  have N0 := hide hN
  clear hN HB1 X0_1
  obtain ⟨_, p1, p2, pf⟩ := (unhide N0).2.2.1.cells
  have N1 := hide ((unhide N0).root root)
  obtain ⟨s0, s1, s2, _⟩ := (unhide N1).2.1.cells
  obtain ⟨r0, r1, r2, rf⟩ := (unhide N1).2.2.1.cells
  have N2 := hide ((unhide N1).gen (G + 1))
  obtain ⟨t0, t1, t2, _⟩ := (unhide N2).2.1.cells
  obtain ⟨q0, q1, q2, qf⟩ := (unhide N2).2.2.2.1.cells
  have N3 := hide ((unhide N2).gen' (G - 1))
  obtain ⟨u0, u1, u2, _⟩ := (unhide N3).2.1.cells
  go_wp2_with fail
  clear p1 p2 pf s0 s1 s2 r0 r1 r2 rf t0 t1 t2 q0 q1 q2 qf u0 u1 u2 N0 N1 N2
  generalize ((wc.setCell ⟨p, 1, none⟩ (.int .i64 root)).setCell ⟨p, 0, none⟩ (.int .i64 (G + 1))).setCell ⟨q, 0, none⟩ (.int .i64 (G - 1)) = wd at *
  obtain ⟨hb0, hx0, hx1, hx2, hp, hq, hpq⟩ := unhide N3
  have HBn := hide hb0
  have X0 := hide hx0
  have X1 := hide hx1
  have X2 := hide hx2
  have HPQ := hide (And.intro hp (And.intro hq hpq))
  clear N3 hb0 hx0 hx1 hx2 hp hq hpq
  refine (unhide H1 _ ((unhide HT).below (unhide HBn))).mono ?_
  unfold wrapped
  rintro e w2 ⟨rfl, hb⟩
  have HB2 := hide (below_then (unhide HBn) hb)
  have X0_2 := hide ((unhide X0).then hb)
  have X1_2 := hide ((unhide X1).then hb)
  have X2_2 := hide ((unhide X2).then hb)
  clear hb HBn X0 X1 X2
  obtain ⟨c00, c01, c02, _⟩ := (unhide X0_2).cells
  obtain ⟨c10, c11, c12, _⟩ := (unhide X1_2).cells
  obtain ⟨c20, c21, c22, _⟩ := (unhide X2_2).cells
  go_wp2_with fail
  clear c00 c01 c02 c10 c11 c12 c20 c21 c22
  refine (unhide H2 _ ((unhide HT).below (unhide HB2))).mono ?_
  unfold wrapped
  rintro e w3 ⟨rfl, hb⟩
  have HB3 := hide (below_then (unhide HB2) hb)
  have X0_3 := hide ((unhide X0_2).then hb)
  have X1_3 := hide ((unhide X1_2).then hb)
  have X2_3 := hide ((unhide X2_2).then hb)
  clear hb HB2 X0_2 X1_2 X2_2
  obtain ⟨c00, c01, c02, _⟩ := (unhide X0_3).cells
  obtain ⟨c10, c11, c12, _⟩ := (unhide X1_3).cells
  obtain ⟨c20, c21, c22, _⟩ := (unhide X2_3).cells
  go_wp2_with fail
  clear c00 c01 c02 c10 c11 c12 c20 c21 c22
  refine (unhide H3 _ ((unhide HT).below (unhide HB3))).mono ?_
  unfold wrapped
  rintro e w4 ⟨rfl, hb⟩
  have HB4 := hide (below_then (unhide HB3) hb)
  have X0_4 := hide ((unhide X0_3).then hb)
  have X1_4 := hide ((unhide X1_3).then hb)
  have X2_4 := hide ((unhide X2_3).then hb)
  clear hb HB3 X0_3 X1_3 X2_3
  obtain ⟨c00, c01, c02, _⟩ := (unhide X0_4).cells
  obtain ⟨c10, c11, c12, _⟩ := (unhide X1_4).cells
  obtain ⟨c20, c21, c22, _⟩ := (unhide X2_4).cells
  go_wp2
  go_ret
  exact ⟨rfl, unhide HB4⟩
set_option maxRecDepth 10000 in
set_option maxHeartbeats 2000000 in
theorem snewer_e2 (G R S root cut : Int) (w : World) (hT : Tab w) (hc : 1 ≤ G) (hd : G < 1152921504606846976) (c : Nat) (hcut : cut = (c : Int)) (he : c ≤ 1024) (s n m : ByteArray) (E F : Nat) (hE : E ≠ 0) (h1 : swrapR G R S = (s, 0)) (h2 : swrapR (G + 1) root S = (n, E)) (h3 : swrapR (G - 1) R S = (m, F)) : Calls Tryd.prog 8 #[.agg #[.int .i64 G, .int .i64 R, .int .i64 S], .int .i64 root, .int .i64 cut] w fun e w' => e = .returned (.bool true) ∧ Below w.heap.size w w' := by
  have hA := fun W (hW : Tab W) => awake_any W hW
  subst hcut
  have k1 := fun W (hW : Tab W) => swrap_any G R S W hW
  have k2 := fun W (hW : Tab W) => swrap_any (G + 1) root S W hW
  have k3 := fun W (hW : Tab W) => swrap_any (G - 1) R S W hW
  rw [h1] at k1
  rw [h2] at k2
  rw [h3] at k3
  have H1 := hide k1
  have H2 := hide k2
  have H3 := hide k3
  have e1 : ((E : Int) == 0) = false := beq_eq_false_iff_ne.2 (by omega)
  have e2 : ((E : Int) != 0) = true := bne_iff_ne.2 (by omega)
  clear hE
  clear k1 k2 k3 h1 h2 h3
  have HT := hide hT
  have HA := hide hA
  clear hT hA
  go_enter Tryd.func8, Tryd.ntmps8
  go_wp2_with fail
  have HB0 := hide (b_alloc w (.cells #[.int .i64 G, .int .i64 R, .int .i64 S] 23))
  have X0 := hide (Bk.new w (.int .i64 G) (.int .i64 R) (.int .i64 S) 23)
  generalize w.alloc (.cells #[.int .i64 G, .int .i64 R, .int .i64 S] 23) = w0 at *
  refine (unhide HA _ ((unhide HT).below (unhide HB0))).mono ?_
  rintro e w1 ⟨rfl, hb⟩
  have HB1 := hide (below_then (unhide HB0) hb)
  have X0_1 := hide ((unhide X0).then hb)
  clear hb HB0 X0
  go_upto_region 3 with fail
  go_cut [7, 8] (fun s7 s8 wc => ∃ p q, s7 = .pointer (some ⟨p, 0, none⟩) ∧ s8 = .pointer (some ⟨q, 0, none⟩) ∧ Nw w wc p q G R S G R S G R S)
  case first =>
    have KP : Hid (∀ wa wb, (fun w' => Below w.heap.size w w' ∧ w'.cell? ⟨w.heap.size, 0, none⟩ = some (.int .i64 G) ∧ w'.cell? ⟨w.heap.size, 1, none⟩ = some (.int .i64 R) ∧ w'.cell? ⟨w.heap.size, 2, none⟩ = some (.int .i64 S)) wa → Below wa.heap.size wa wb → (fun w' => Below w.heap.size w w' ∧ w'.cell? ⟨w.heap.size, 0, none⟩ = some (.int .i64 G) ∧ w'.cell? ⟨w.heap.size, 1, none⟩ = some (.int .i64 R) ∧ w'.cell? ⟨w.heap.size, 2, none⟩ = some (.int .i64 S)) wb) := fun wa wb h hb => ⟨below_then h.1 hb, (hb.cell (World.block_lt_of_cell? wa _ h.2.1)).trans h.2.1, (hb.cell (World.block_lt_of_cell? wa _ h.2.2.1)).trans h.2.2.1, (hb.cell (World.block_lt_of_cell? wa _ h.2.2.2)).trans h.2.2.2⟩
    have H0 : Hid ((fun w' => Below w.heap.size w w' ∧ w'.cell? ⟨w.heap.size, 0, none⟩ = some (.int .i64 G) ∧ w'.cell? ⟨w.heap.size, 1, none⟩ = some (.int .i64 R) ∧ w'.cell? ⟨w.heap.size, 2, none⟩ = some (.int .i64 S)) w1.drew) := ⟨(unhide HB1).drew, (unhide X0_1).cells.1, (unhide X0_1).cells.2.1, (unhide X0_1).cells.2.2.1⟩
    have K1 : Hid (∀ o, (fun w' => Below w.heap.size w w' ∧ w'.cell? ⟨w.heap.size, 0, none⟩ = some (.int .i64 G) ∧ w'.cell? ⟨w.heap.size, 1, none⟩ = some (.int .i64 R) ∧ w'.cell? ⟨w.heap.size, 2, none⟩ = some (.int .i64 S)) (w1.alloc o).drew) := fun o => unhide KP _ _ (unhide H0) (b_alloc w1.drew o)
    have K2 : Hid (∀ o o', (fun w' => Below w.heap.size w w' ∧ w'.cell? ⟨w.heap.size, 0, none⟩ = some (.int .i64 G) ∧ w'.cell? ⟨w.heap.size, 1, none⟩ = some (.int .i64 R) ∧ w'.cell? ⟨w.heap.size, 2, none⟩ = some (.int .i64 S)) ((w1.alloc o).alloc o').drew) := fun o o' => unhide KP _ _ (unhide K1 o) (b_alloc (w1.alloc o).drew o')
    have KT := hide (Nw.two (unhide HB1) (unhide X0_1))
    go_region_held3 (fun w' => Below w.heap.size w w' ∧ w'.cell? ⟨w.heap.size, 0, none⟩ = some (.int .i64 G) ∧ w'.cell? ⟨w.heap.size, 1, none⟩ = some (.int .i64 R) ∧ w'.cell? ⟨w.heap.size, 2, none⟩ = some (.int .i64 S))
      (first | assumption | (exact unhide H0) | (exact unhide K1 _) | (exact unhide K2 _ _))
      (fail)
    all_goals (go_wp2_with fail; go_meet)
    · exact ⟨_, _, rfl, rfl, (unhide KT).1.then (Below.refl _ _).drew⟩
    · exact ⟨_, _, rfl, rfl, (unhide KT).2.then (Below.refl _ _).drew⟩
  case rest =>
  obtain ⟨p, q, rfl, rfl, hN⟩ := hcut
  have N0 := hide hN
  clear hN HB1 X0_1
  obtain ⟨_, p1, p2, pf⟩ := (unhide N0).2.2.1.cells
  have N1 := hide ((unhide N0).root root)
  obtain ⟨s0, s1, s2, _⟩ := (unhide N1).2.1.cells
  obtain ⟨r0, r1, r2, rf⟩ := (unhide N1).2.2.1.cells
  have N2 := hide ((unhide N1).gen (G + 1))
  obtain ⟨t0, t1, t2, _⟩ := (unhide N2).2.1.cells
  obtain ⟨q0, q1, q2, qf⟩ := (unhide N2).2.2.2.1.cells
  have N3 := hide ((unhide N2).gen' (G - 1))
  obtain ⟨u0, u1, u2, _⟩ := (unhide N3).2.1.cells
  go_wp2_with fail
  clear p1 p2 pf s0 s1 s2 r0 r1 r2 rf t0 t1 t2 q0 q1 q2 qf u0 u1 u2 N0 N1 N2
  generalize ((wc.setCell ⟨p, 1, none⟩ (.int .i64 root)).setCell ⟨p, 0, none⟩ (.int .i64 (G + 1))).setCell ⟨q, 0, none⟩ (.int .i64 (G - 1)) = wd at *
  obtain ⟨hb0, hx0, hx1, hx2, hp, hq, hpq⟩ := unhide N3
  have HBn := hide hb0
  have X0 := hide hx0
  have X1 := hide hx1
  have X2 := hide hx2
  have HPQ := hide (And.intro hp (And.intro hq hpq))
  clear N3 hb0 hx0 hx1 hx2 hp hq hpq
  refine (unhide H1 _ ((unhide HT).below (unhide HBn))).mono ?_
  unfold wrapped
  rintro e w2 ⟨rfl, hb⟩
  have HB2 := hide (below_then (unhide HBn) hb)
  have X0_2 := hide ((unhide X0).then hb)
  have X1_2 := hide ((unhide X1).then hb)
  have X2_2 := hide ((unhide X2).then hb)
  clear hb HBn X0 X1 X2
  obtain ⟨c00, c01, c02, _⟩ := (unhide X0_2).cells
  obtain ⟨c10, c11, c12, _⟩ := (unhide X1_2).cells
  obtain ⟨c20, c21, c22, _⟩ := (unhide X2_2).cells
  go_wp2_with fail
  clear c00 c01 c02 c10 c11 c12 c20 c21 c22
  refine (unhide H2 _ ((unhide HT).below (unhide HB2))).mono ?_
  unfold wrapped
  rintro e w3 ⟨rfl, hb⟩
  have HB3 := hide (below_then (unhide HB2) hb)
  have X0_3 := hide ((unhide X0_2).then hb)
  have X1_3 := hide ((unhide X1_2).then hb)
  have X2_3 := hide ((unhide X2_2).then hb)
  clear hb HB2 X0_2 X1_2 X2_2
  obtain ⟨c00, c01, c02, _⟩ := (unhide X0_3).cells
  obtain ⟨c10, c11, c12, _⟩ := (unhide X1_3).cells
  obtain ⟨c20, c21, c22, _⟩ := (unhide X2_3).cells
  go_wp2_with fail
  clear c00 c01 c02 c10 c11 c12 c20 c21 c22
  refine (unhide H3 _ ((unhide HT).below (unhide HB3))).mono ?_
  unfold wrapped
  rintro e w4 ⟨rfl, hb⟩
  have HB4 := hide (below_then (unhide HB3) hb)
  have X0_4 := hide ((unhide X0_3).then hb)
  have X1_4 := hide ((unhide X1_3).then hb)
  have X2_4 := hide ((unhide X2_3).then hb)
  clear hb HB3 X0_3 X1_3 X2_3
  obtain ⟨c00, c01, c02, _⟩ := (unhide X0_4).cells
  obtain ⟨c10, c11, c12, _⟩ := (unhide X1_4).cells
  obtain ⟨c20, c21, c22, _⟩ := (unhide X2_4).cells
  go_wp2
  go_ret
  exact ⟨rfl, unhide HB4⟩
set_option maxRecDepth 10000 in
set_option maxHeartbeats 2000000 in
theorem snewer_e3 (G R S root cut : Int) (w : World) (hT : Tab w) (hc : 1 ≤ G) (hd : G < 1152921504606846976) (c : Nat) (hcut : cut = (c : Int)) (he : c ≤ 1024) (s n m : ByteArray) (F : Nat) (hE : F ≠ 0) (h1 : swrapR G R S = (s, 0)) (h2 : swrapR (G + 1) root S = (n, 0)) (h3 : swrapR (G - 1) R S = (m, F)) : Calls Tryd.prog 8 #[.agg #[.int .i64 G, .int .i64 R, .int .i64 S], .int .i64 root, .int .i64 cut] w fun e w' => e = .returned (.bool true) ∧ Below w.heap.size w w' := by
  have hA := fun W (hW : Tab W) => awake_any W hW
  subst hcut
  have k1 := fun W (hW : Tab W) => swrap_any G R S W hW
  have k2 := fun W (hW : Tab W) => swrap_any (G + 1) root S W hW
  have k3 := fun W (hW : Tab W) => swrap_any (G - 1) R S W hW
  rw [h1] at k1
  rw [h2] at k2
  rw [h3] at k3
  have H1 := hide k1
  have H2 := hide k2
  have H3 := hide k3
  have e1 : ((F : Int) == 0) = false := beq_eq_false_iff_ne.2 (by omega)
  have e2 : ((F : Int) != 0) = true := bne_iff_ne.2 (by omega)
  clear hE
  clear k1 k2 k3 h1 h2 h3
  have HT := hide hT
  have HA := hide hA
  clear hT hA
  go_enter Tryd.func8, Tryd.ntmps8
  go_wp2_with fail
  have HB0 := hide (b_alloc w (.cells #[.int .i64 G, .int .i64 R, .int .i64 S] 23))
  have X0 := hide (Bk.new w (.int .i64 G) (.int .i64 R) (.int .i64 S) 23)
  generalize w.alloc (.cells #[.int .i64 G, .int .i64 R, .int .i64 S] 23) = w0 at *
  refine (unhide HA _ ((unhide HT).below (unhide HB0))).mono ?_
  rintro e w1 ⟨rfl, hb⟩
  have HB1 := hide (below_then (unhide HB0) hb)
  have X0_1 := hide ((unhide X0).then hb)
  clear hb HB0 X0
  go_upto_region 3 with fail
  go_cut [7, 8] (fun s7 s8 wc => ∃ p q, s7 = .pointer (some ⟨p, 0, none⟩) ∧ s8 = .pointer (some ⟨q, 0, none⟩) ∧ Nw w wc p q G R S G R S G R S)
  case first =>
    have KP : Hid (∀ wa wb, (fun w' => Below w.heap.size w w' ∧ w'.cell? ⟨w.heap.size, 0, none⟩ = some (.int .i64 G) ∧ w'.cell? ⟨w.heap.size, 1, none⟩ = some (.int .i64 R) ∧ w'.cell? ⟨w.heap.size, 2, none⟩ = some (.int .i64 S)) wa → Below wa.heap.size wa wb → (fun w' => Below w.heap.size w w' ∧ w'.cell? ⟨w.heap.size, 0, none⟩ = some (.int .i64 G) ∧ w'.cell? ⟨w.heap.size, 1, none⟩ = some (.int .i64 R) ∧ w'.cell? ⟨w.heap.size, 2, none⟩ = some (.int .i64 S)) wb) := fun wa wb h hb => ⟨below_then h.1 hb, (hb.cell (World.block_lt_of_cell? wa _ h.2.1)).trans h.2.1, (hb.cell (World.block_lt_of_cell? wa _ h.2.2.1)).trans h.2.2.1, (hb.cell (World.block_lt_of_cell? wa _ h.2.2.2)).trans h.2.2.2⟩
    have H0 : Hid ((fun w' => Below w.heap.size w w' ∧ w'.cell? ⟨w.heap.size, 0, none⟩ = some (.int .i64 G) ∧ w'.cell? ⟨w.heap.size, 1, none⟩ = some (.int .i64 R) ∧ w'.cell? ⟨w.heap.size, 2, none⟩ = some (.int .i64 S)) w1.drew) := ⟨(unhide HB1).drew, (unhide X0_1).cells.1, (unhide X0_1).cells.2.1, (unhide X0_1).cells.2.2.1⟩
    have K1 : Hid (∀ o, (fun w' => Below w.heap.size w w' ∧ w'.cell? ⟨w.heap.size, 0, none⟩ = some (.int .i64 G) ∧ w'.cell? ⟨w.heap.size, 1, none⟩ = some (.int .i64 R) ∧ w'.cell? ⟨w.heap.size, 2, none⟩ = some (.int .i64 S)) (w1.alloc o).drew) := fun o => unhide KP _ _ (unhide H0) (b_alloc w1.drew o)
    have K2 : Hid (∀ o o', (fun w' => Below w.heap.size w w' ∧ w'.cell? ⟨w.heap.size, 0, none⟩ = some (.int .i64 G) ∧ w'.cell? ⟨w.heap.size, 1, none⟩ = some (.int .i64 R) ∧ w'.cell? ⟨w.heap.size, 2, none⟩ = some (.int .i64 S)) ((w1.alloc o).alloc o').drew) := fun o o' => unhide KP _ _ (unhide K1 o) (b_alloc (w1.alloc o).drew o')
    have KT := hide (Nw.two (unhide HB1) (unhide X0_1))
    go_region_held3 (fun w' => Below w.heap.size w w' ∧ w'.cell? ⟨w.heap.size, 0, none⟩ = some (.int .i64 G) ∧ w'.cell? ⟨w.heap.size, 1, none⟩ = some (.int .i64 R) ∧ w'.cell? ⟨w.heap.size, 2, none⟩ = some (.int .i64 S))
      (first | assumption | (exact unhide H0) | (exact unhide K1 _) | (exact unhide K2 _ _))
      (fail)
    all_goals (go_wp2_with fail; go_meet)
    · exact ⟨_, _, rfl, rfl, (unhide KT).1.then (Below.refl _ _).drew⟩
    · exact ⟨_, _, rfl, rfl, (unhide KT).2.then (Below.refl _ _).drew⟩
  case rest =>
  obtain ⟨p, q, rfl, rfl, hN⟩ := hcut
  have N0 := hide hN
  clear hN HB1 X0_1
  obtain ⟨_, p1, p2, pf⟩ := (unhide N0).2.2.1.cells
  have N1 := hide ((unhide N0).root root)
  obtain ⟨s0, s1, s2, _⟩ := (unhide N1).2.1.cells
  obtain ⟨r0, r1, r2, rf⟩ := (unhide N1).2.2.1.cells
  have N2 := hide ((unhide N1).gen (G + 1))
  obtain ⟨t0, t1, t2, _⟩ := (unhide N2).2.1.cells
  obtain ⟨q0, q1, q2, qf⟩ := (unhide N2).2.2.2.1.cells
  have N3 := hide ((unhide N2).gen' (G - 1))
  obtain ⟨u0, u1, u2, _⟩ := (unhide N3).2.1.cells
  go_wp2_with fail
  clear p1 p2 pf s0 s1 s2 r0 r1 r2 rf t0 t1 t2 q0 q1 q2 qf u0 u1 u2 N0 N1 N2
  generalize ((wc.setCell ⟨p, 1, none⟩ (.int .i64 root)).setCell ⟨p, 0, none⟩ (.int .i64 (G + 1))).setCell ⟨q, 0, none⟩ (.int .i64 (G - 1)) = wd at *
  obtain ⟨hb0, hx0, hx1, hx2, hp, hq, hpq⟩ := unhide N3
  have HBn := hide hb0
  have X0 := hide hx0
  have X1 := hide hx1
  have X2 := hide hx2
  have HPQ := hide (And.intro hp (And.intro hq hpq))
  clear N3 hb0 hx0 hx1 hx2 hp hq hpq
  refine (unhide H1 _ ((unhide HT).below (unhide HBn))).mono ?_
  unfold wrapped
  rintro e w2 ⟨rfl, hb⟩
  have HB2 := hide (below_then (unhide HBn) hb)
  have X0_2 := hide ((unhide X0).then hb)
  have X1_2 := hide ((unhide X1).then hb)
  have X2_2 := hide ((unhide X2).then hb)
  clear hb HBn X0 X1 X2
  obtain ⟨c00, c01, c02, _⟩ := (unhide X0_2).cells
  obtain ⟨c10, c11, c12, _⟩ := (unhide X1_2).cells
  obtain ⟨c20, c21, c22, _⟩ := (unhide X2_2).cells
  go_wp2_with fail
  clear c00 c01 c02 c10 c11 c12 c20 c21 c22
  refine (unhide H2 _ ((unhide HT).below (unhide HB2))).mono ?_
  unfold wrapped
  rintro e w3 ⟨rfl, hb⟩
  have HB3 := hide (below_then (unhide HB2) hb)
  have X0_3 := hide ((unhide X0_2).then hb)
  have X1_3 := hide ((unhide X1_2).then hb)
  have X2_3 := hide ((unhide X2_2).then hb)
  clear hb HB2 X0_2 X1_2 X2_2
  obtain ⟨c00, c01, c02, _⟩ := (unhide X0_3).cells
  obtain ⟨c10, c11, c12, _⟩ := (unhide X1_3).cells
  obtain ⟨c20, c21, c22, _⟩ := (unhide X2_3).cells
  go_wp2_with fail
  clear c00 c01 c02 c10 c11 c12 c20 c21 c22
  refine (unhide H3 _ ((unhide HT).below (unhide HB3))).mono ?_
  unfold wrapped
  rintro e w4 ⟨rfl, hb⟩
  have HB4 := hide (below_then (unhide HB3) hb)
  have X0_4 := hide ((unhide X0_3).then hb)
  have X1_4 := hide ((unhide X1_3).then hb)
  have X2_4 := hide ((unhide X2_3).then hb)
  clear hb HB3 X0_3 X1_3 X2_3
  obtain ⟨c00, c01, c02, _⟩ := (unhide X0_4).cells
  obtain ⟨c10, c11, c12, _⟩ := (unhide X1_4).cells
  obtain ⟨c20, c21, c22, _⟩ := (unhide X2_4).cells
  go_wp2
  go_ret
  exact ⟨rfl, unhide HB4⟩
end Go.Proofs.YtdkgifjmahkiaaaDoor
