/- What a super's blockOf, read, Wrap and the document's Wrap do. -/
import Derived.Test.YtdkgifjmahkiaaaDoorSup
import Derived.Test.YtdkgifjmahkiaaaDoorL4Open
import Derived.Test.YtdkgifjmahkiaaaDoorL4Refwrap
namespace Go.Proofs.YtdkgifjmahkiaaaDoor
open Go.ChangeShapes Go.WideShapes Go.ChangeAt Go.RowKit
open L4

/-- the super's own cells, and the answer's, beside what was there -/
def Two (w w' : World) (G R S : Int) : Prop := Below w.heap.size w w' ∧ Bk w' w.heap.size (.int .i64 G) (.int .i64 R) (.int .i64 S) 23 ∧ Bk w' (w.heap.size + 1) (.int .i64 0) (.int .i64 0) (.string ⟨#[]⟩) 33
theorem Two.new (w : World) (G R S : Int) : Two w ((w.alloc (.cells #[.int .i64 G, .int .i64 R, .int .i64 S] 23)).alloc (.cells #[.int .i64 0, .int .i64 0, .string ⟨#[]⟩] 33)) G R S := by
  refine ⟨(b_alloc _ _).alloc (b_alloc _ _).size _, (Bk.new _ _ _ _ _).then (b_alloc _ _), ?_⟩
  have h := Bk.new (w.alloc (.cells #[.int .i64 G, .int .i64 R, .int .i64 S] 23)) (.int .i64 0) (.int .i64 0) (.string ⟨#[]⟩) 33
  have e : (w.alloc (.cells #[.int .i64 G, .int .i64 R, .int .i64 S] 23)).heap.size = w.heap.size + 1 := by simp
  rw [e] at h
  exact h
theorem Two.then {w w1 w2 : World} {G R S : Int} (h : Two w w1 G R S) (hb : Below w1.heap.size w1 w2) : Two w w2 G R S := ⟨below_then h.1 hb, h.2.1.then hb, h.2.2.then hb⟩
theorem Two.drew {w w1 : World} {G R S : Int} (h : Two w w1 G R S) : Two w w1.drew G R S := h.then (Below.refl _ _).drew

theorem results_cell {fn : Func} {p : Tmp} {ty : TypeId} (h : fn.results = #[.cell p ty]) (tmps : Array Value) (P : Program) (w : World) :
    (results fn tmps).run P w = ((asAddr (tmps.getD p undef)).run P w).andThen fun a w₁ => (loadVar ty a).run P w₁ := by
  simp only [results, h]
  simp [Sem.run_bind, Result.andThen]
set_option maxRecDepth 10000 in
set_option maxHeartbeats 2000000 in
theorem blockof_any (g r s : Nat) (w : World) (hg : g < 9223372036854775808) (hr : r < 9223372036854775808) (hs : s < 9223372036854775808) :
    Calls Tryd.prog 20 #[.agg #[.int .i64 (g : Int), .int .i64 (r : Int), .int .i64 (s : Int)]] w fun e w' => e = .returned (.agg #[.int .i64 9, .int .i64 (g : Int), .string (spay r s g)]) ∧ Below w.heap.size w w' := by
  have hF : ∀ n : Int, (0 ≤ n ∧ n < 18446744073709551616) → ∀ W, Calls Tryd.prog 29 #[.int .u64 n] W fun e w' => e = .returned (.string ((fun m : Int => L4.strOf (Pk.fixL m.toNat)) n)) ∧ Below W.heap.size W w' := fun n hn W => fixed_any n W hn
  have vg : IntKind.u64.wrap (g : Int) = (g : Int) := by rw [IntKind.wrap_u64]; omega
  have vr : IntKind.u64.wrap (r : Int) = (r : Int) := by rw [IntKind.wrap_u64]; omega
  have vs : IntKind.u64.wrap (s : Int) = (s : Int) := by rw [IntKind.wrap_u64]; omega
  have bg : Hid (0 ≤ (g : Int) ∧ (g : Int) < 18446744073709551616) := ⟨by omega, by omega⟩
  have br : Hid (0 ≤ (r : Int) ∧ (r : Int) < 18446744073709551616) := ⟨by omega, by omega⟩
  have bs : Hid (0 ≤ (s : Int) ∧ (s : Int) < 18446744073709551616) := ⟨by omega, by omega⟩
  have e : Hid (spay r s g = (fun m : Int => L4.strOf (Pk.fixL m.toNat)) (r : Int) ++ (fun m : Int => L4.strOf (Pk.fixL m.toNat)) (s : Int) ++ (fun m : Int => L4.strOf (Pk.fixL m.toNat)) (g : Int)) := by
    show _ = _
    simp only [Int.toNat_natCast]
    rfl
  have z : ∀ n : Int, ((fun m : Int => L4.strOf (Pk.fixL m.toNat)) n).size = 8 := fun n => by
    show (L4.strOf _).size = 8
    rw [strOf_size]
    rfl
  generalize spay r s g = P at *
  generalize (fun m : Int => L4.strOf (Pk.fixL m.toNat)) = F at *
  generalize (g : Int) = G at *
  generalize (r : Int) = R at *
  generalize (s : Int) = S at *
  have q1 := add_run (F R) (F S) (by rw [z, z]; decide)
  have q2 := add_run (F R ++ F S) (F G) (by rw [ByteArray.size_append, z, z, z]; decide)
  have HF := hide hF
  clear hF z hg hr hs
  go_enter Tryd.func20, Tryd.ntmps20
  go_wp2_with fail
  have HX := Two.new w G R S
  generalize ((w.alloc (.cells #[.int .i64 G, .int .i64 R, .int .i64 S] 23)).alloc (.cells #[.int .i64 0, .int .i64 0, .string ⟨#[]⟩] 33)) = w1 at *
  have KP : Hid (∀ wa wb, (fun w' => Below w.heap.size w w' ∧ w'.cell? ⟨w.heap.size, 0, none⟩ = some (.int .i64 G) ∧ w'.cell? ⟨w.heap.size, 1, none⟩ = some (.int .i64 R) ∧ w'.cell? ⟨w.heap.size, 2, none⟩ = some (.int .i64 S) ∧ w'.heap[w.heap.size + 1]? = some (.cells #[.int .i64 0, .int .i64 0, .string ⟨#[]⟩] 33 (0, 0))) wa → Below wa.heap.size wa wb → (fun w' => Below w.heap.size w w' ∧ w'.cell? ⟨w.heap.size, 0, none⟩ = some (.int .i64 G) ∧ w'.cell? ⟨w.heap.size, 1, none⟩ = some (.int .i64 R) ∧ w'.cell? ⟨w.heap.size, 2, none⟩ = some (.int .i64 S) ∧ w'.heap[w.heap.size + 1]? = some (.cells #[.int .i64 0, .int .i64 0, .string ⟨#[]⟩] 33 (0, 0))) wb) := fun wa wb h hb =>
    ⟨below_then h.1 hb, (hb.cell (World.block_lt_of_cell? wa _ h.2.1)).trans h.2.1, (hb.cell (World.block_lt_of_cell? wa _ h.2.2.1)).trans h.2.2.1, (hb.cell (World.block_lt_of_cell? wa _ h.2.2.2.1)).trans h.2.2.2.1, (hb.block _ (Array.getElem?_eq_some_iff.1 h.2.2.2.2).1).trans h.2.2.2.2⟩
  have H0 : Hid ((fun w' => Below w.heap.size w w' ∧ w'.cell? ⟨w.heap.size, 0, none⟩ = some (.int .i64 G) ∧ w'.cell? ⟨w.heap.size, 1, none⟩ = some (.int .i64 R) ∧ w'.cell? ⟨w.heap.size, 2, none⟩ = some (.int .i64 S) ∧ w'.heap[w.heap.size + 1]? = some (.cells #[.int .i64 0, .int .i64 0, .string ⟨#[]⟩] 33 (0, 0))) w1.drew) := ⟨HX.drew.1, HX.drew.2.1.cells.1, HX.drew.2.1.cells.2.1, HX.drew.2.1.cells.2.2.1, HX.drew.2.2⟩
  clear HX
  go_region_held3 (fun w' => Below w.heap.size w w' ∧ w'.cell? ⟨w.heap.size, 0, none⟩ = some (.int .i64 G) ∧ w'.cell? ⟨w.heap.size, 1, none⟩ = some (.int .i64 R) ∧ w'.cell? ⟨w.heap.size, 2, none⟩ = some (.int .i64 S) ∧ w'.heap[w.heap.size + 1]? = some (.cells #[.int .i64 0, .int .i64 0, .string ⟨#[]⟩] 33 (0, 0)))
    (first | assumption | exact unhide H0)
    (first
      | (go_at_call 29; refine (unhide HF _ (by first | exact unhide br | exact unhide bs | exact unhide bg) _).mono ?_; rintro e w2 ⟨rfl, hb⟩; have H2 := unhide KP _ _ (by first | assumption | exact unhide H0) hb; clear hb))
  obtain ⟨hb, c0, c1, c2, hr⟩ := H2
  have HB := hide hb
  obtain ⟨d0, d1, d2, df⟩ := Bk.cells (w := w2) (b := w.heap.size + 1) hr
  have HP := unhide e
  clear e KP H0 hb hr
  rw [← HP]
  clear HP q1 q2
  go_wp2
  refine bodyPost_ret (v := .agg #[.int .i64 9, .int .i64 G, .string P]) ?_ rfl ⟨rfl, ?_⟩
  · rw [results_cell rfl]
    go_simp
  · exact below_set (below_set (below_set (unhide HB) (Nat.le_succ _)) (Nat.le_succ _)) (Nat.le_succ _)

/-- what an answer of Wrap is -/
def wrapped (T : ByteArray × Nat) : Value := .tuple #[.string T.1, .int .i64 (T.2 : Nat)]
set_option maxRecDepth 10000 in
set_option maxHeartbeats 1000000 in
theorem swrap_any (G R S : Int) (w : World) (hT : Tab w) :
    Calls Tryd.prog 10 #[.agg #[.int .i64 G, .int .i64 R, .int .i64 S]] w fun e w' => e = .returned (wrapped (swrapR G R S)) ∧ Below w.heap.size w w' := by
  have HX := hide (Bk.new w (.int .i64 G) (.int .i64 R) (.int .i64 S) 23)
  have HT := hide hT
  clear hT
  by_cases h : MayB G R S
  · have h1 := fun W => maybe_any G R S W
    rw [decide_eq_true h] at h1
    rw [swrapR_ok h]
    obtain ⟨⟨a1, a2⟩, ⟨a3, a4⟩, a5⟩ := h
    obtain ⟨g, rfl⟩ := Int.eq_ofNat_of_zero_le a1
    obtain ⟨r, rfl⟩ := Int.eq_ofNat_of_zero_le (show 0 ≤ R by omega)
    obtain ⟨s, rfl⟩ := Int.eq_ofNat_of_zero_le (show 0 ≤ S by omega)
    have h2 := fun W => blockof_any g r s W (by omega) (by omega) (by omega)
    have h3 := fun W (hW : Tab W) => wrap_any 9 (g : Int) (spay r s g) W hW
    rw [wrapR_ok (by omega) (by rw [spay_size]; decide)] at h3
    have H1 := hide h1
    have H2 := hide h2
    have H3 := hide h3
    clear h1 h2 h3 a1 a2 a3 a4 a5
    simp only [Int.toNat_natCast] at H3 ⊢
    rw [show (9 : Int).toNat = 9 from rfl] at H3
    generalize L4.strOf (Blk.sector 9 g (bn (spay r s g))) = T at *
    generalize spay r s g = P at *
    generalize (g : Int) = G at *
    generalize (r : Int) = R at *
    generalize (s : Int) = S at *
    go_enter Tryd.func10, Tryd.ntmps10
    go_wp2_with (first
      | (go_at_call 18; refine (unhide H1 _).mono ?_; rintro e w1 ⟨rfl, hb⟩; have HB1 := hide (below_then (b_alloc w _) hb); obtain ⟨c0, c1, c2, _⟩ := ((unhide HX).then hb).cells; clear hb)
      | (go_at_call 20; refine (unhide H2 _).mono ?_; rintro e w2 ⟨rfl, hb⟩; have HB2 := hide (below_then (unhide HB1) hb); clear hb)
      | (go_at_call 19; refine (unhide H3 _ ((unhide HT).below (unhide HB2))).mono ?_; rintro e w3 ⟨rfl, hb⟩))
    go_ret2
    exact ⟨rfl, below_then (unhide HB2) hb⟩
  · have h1 := fun W => maybe_any G R S W
    rw [decide_eq_false h] at h1
    rw [swrapR_no h]
    have H1 := hide h1
    clear h1 h
    go_enter Tryd.func10, Tryd.ntmps10
    go_wp2_with (go_at_call 18; refine (unhide H1 _).mono ?_; rintro e w1 ⟨rfl, hb⟩)
    go_ret2
    exact ⟨rfl, below_then (b_alloc w _) hb⟩

set_option maxRecDepth 10000 in
set_option maxHeartbeats 2000000 in
theorem rswrap_any (G R S : Int) (w : World) (hT : Tab w) :
    Calls Tryd.prog 11 #[.agg #[.int .i64 G, .int .i64 R, .int .i64 S]] w fun e w' => e = .returned (wrapped (swrapR G R S)) ∧ Below w.heap.size w w' := by
  have HX := hide (Bk.new w (.int .i64 G) (.int .i64 R) (.int .i64 S) 23)
  have HT := hide hT
  clear hT
  by_cases h : MayB G R S
  · have h1 := fun W => right_any G R S W
    rw [decide_eq_true h] at h1
    rw [swrapR_ok h]
    obtain ⟨⟨a1, a2⟩, ⟨a3, a4⟩, a5⟩ := h
    obtain ⟨g, rfl⟩ := Int.eq_ofNat_of_zero_le a1
    obtain ⟨r, rfl⟩ := Int.eq_ofNat_of_zero_le (show 0 ≤ R by omega)
    obtain ⟨s, rfl⟩ := Int.eq_ofNat_of_zero_le (show 0 ≤ S by omega)
    have hF : ∀ n : Int, (0 ≤ n ∧ n < 18446744073709551616) → ∀ W, Calls Tryd.prog 22 #[.int .u64 n] W fun e w' => e = .returned (.string ((fun m : Int => L4.strOf (Pk.fixL m.toNat)) n)) ∧ Below W.heap.size W w' := fun n hn W => refFixed_any n W hn
    have vg : IntKind.u64.wrap (g : Int) = (g : Int) := by rw [IntKind.wrap_u64]; omega
    have vr : IntKind.u64.wrap (r : Int) = (r : Int) := by rw [IntKind.wrap_u64]; omega
    have vs : IntKind.u64.wrap (s : Int) = (s : Int) := by rw [IntKind.wrap_u64]; omega
    have bg : Hid (0 ≤ (g : Int) ∧ (g : Int) < 18446744073709551616) := ⟨by omega, by omega⟩
    have br : Hid (0 ≤ (r : Int) ∧ (r : Int) < 18446744073709551616) := ⟨by omega, by omega⟩
    have bs : Hid (0 ≤ (s : Int) ∧ (s : Int) < 18446744073709551616) := ⟨by omega, by omega⟩
    have e : Hid (spay r s g = (fun m : Int => L4.strOf (Pk.fixL m.toNat)) (r : Int) ++ (fun m : Int => L4.strOf (Pk.fixL m.toNat)) (s : Int) ++ (fun m : Int => L4.strOf (Pk.fixL m.toNat)) (g : Int)) := by
      show _ = _
      simp only [Int.toNat_natCast]
      rfl
    have z : ∀ n : Int, ((fun m : Int => L4.strOf (Pk.fixL m.toNat)) n).size = 8 := fun n => by
      show (L4.strOf _).size = 8
      rw [strOf_size]
      rfl
    have h3 := fun W (hW : Tab W) => rwrap_any 9 (g : Int) (spay r s g) W hW
    rw [wrapR_ok (by omega) (by rw [spay_size]; decide)] at h3
    have H1 := hide h1
    have H3 := hide h3
    clear h1 h3 a1 a2 a3 a4 a5
    simp only [Int.toNat_natCast] at H3 ⊢
    rw [show (9 : Int).toNat = 9 from rfl] at H3
    generalize L4.strOf (Blk.sector 9 g (bn (spay r s g))) = T at *
    generalize spay r s g = P at *
    generalize (fun m : Int => L4.strOf (Pk.fixL m.toNat)) = F at *
    generalize (g : Int) = G at *
    generalize (r : Int) = R at *
    generalize (s : Int) = S at *
    have q1 := add_run (F R) (F S) (by rw [z, z]; decide)
    have q2 := add_run (F R ++ F S) (F G) (by rw [ByteArray.size_append, z, z, z]; decide)
    have HP := unhide e
    have H3' : Hid (∀ W, Tab W → Calls Tryd.prog 13 #[.agg #[.int .i64 9, .int .i64 G, .string (F R ++ F S ++ F G)]] W fun e w' => e = .returned (wrapped (T, 0)) ∧ Below W.heap.size W w') := by
      rw [← HP]
      exact H3
    have HF := hide hF
    clear hF z e HP H3
    go_enter Tryd.func11, Tryd.ntmps11
    go_wp2_with (go_at_call 21; refine (unhide H1 _).mono ?_; rintro e w1 ⟨rfl, hb⟩; have HB1 := hide (below_then (b_alloc w _) hb); have X1 := hide ((unhide HX).then hb); clear hb)
    have KP : Hid (∀ wa wb, (fun w' => Below w.heap.size w w' ∧ w'.cell? ⟨w.heap.size, 0, none⟩ = some (.int .i64 G) ∧ w'.cell? ⟨w.heap.size, 1, none⟩ = some (.int .i64 R) ∧ w'.cell? ⟨w.heap.size, 2, none⟩ = some (.int .i64 S)) wa → Below wa.heap.size wa wb → (fun w' => Below w.heap.size w w' ∧ w'.cell? ⟨w.heap.size, 0, none⟩ = some (.int .i64 G) ∧ w'.cell? ⟨w.heap.size, 1, none⟩ = some (.int .i64 R) ∧ w'.cell? ⟨w.heap.size, 2, none⟩ = some (.int .i64 S)) wb) := fun wa wb h hb =>
      ⟨below_then h.1 hb, (hb.cell (World.block_lt_of_cell? wa _ h.2.1)).trans h.2.1, (hb.cell (World.block_lt_of_cell? wa _ h.2.2.1)).trans h.2.2.1, (hb.cell (World.block_lt_of_cell? wa _ h.2.2.2)).trans h.2.2.2⟩
    have H0 : Hid ((fun w' => Below w.heap.size w w' ∧ w'.cell? ⟨w.heap.size, 0, none⟩ = some (.int .i64 G) ∧ w'.cell? ⟨w.heap.size, 1, none⟩ = some (.int .i64 R) ∧ w'.cell? ⟨w.heap.size, 2, none⟩ = some (.int .i64 S)) w1.drew) := ⟨(unhide HB1).drew, (unhide X1).cells.1, (unhide X1).cells.2.1, (unhide X1).cells.2.2.1⟩
    clear HX X1 HB1
    go_region_held3 (fun w' => Below w.heap.size w w' ∧ w'.cell? ⟨w.heap.size, 0, none⟩ = some (.int .i64 G) ∧ w'.cell? ⟨w.heap.size, 1, none⟩ = some (.int .i64 R) ∧ w'.cell? ⟨w.heap.size, 2, none⟩ = some (.int .i64 S))
      (first | assumption | exact unhide H0)
      (first
        | (go_at_call 22; refine (unhide HF _ (by first | exact unhide br | exact unhide bs | exact unhide bg) _).mono ?_; rintro e w2 ⟨rfl, hb⟩; have H2 := unhide KP _ _ (by first | assumption | exact unhide H0) hb; clear hb)
        | (go_at_call 13; refine (unhide H3' _ ((unhide HT).below H2.1)).mono ?_; unfold wrapped; rintro e w3 ⟨rfl, hb⟩; have H4 := unhide KP _ _ (by first | assumption | exact unhide H0) hb; clear hb))
    have HB := hide H4.1
    clear KP H0 H2 H4 HF H3'
    go_wp2
    go_ret2
    exact ⟨rfl, unhide HB⟩
  · have h1 := fun W => right_any G R S W
    rw [decide_eq_false h] at h1
    rw [swrapR_no h]
    have H1 := hide h1
    clear h1 h
    go_enter Tryd.func11, Tryd.ntmps11
    go_wp2_with (go_at_call 21; refine (unhide H1 _).mono ?_; rintro e w1 ⟨rfl, hb⟩)
    go_ret2
    exact ⟨rfl, below_then (b_alloc w _) hb⟩
end Go.Proofs.YtdkgifjmahkiaaaDoor
