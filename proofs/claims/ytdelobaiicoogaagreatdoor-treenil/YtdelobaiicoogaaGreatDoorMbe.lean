/- Texts that the proof needs, one behind the other. -/
import Derived.Test.YtdelobaiicoogaaGreatDoorMbd
import Derived.LoopN
import Derived.Defers
import Derived.Test.YtdelobaiicoogaaGreatDoorMas
/- endsUnlike. -/
namespace Go.Proofs.YtdelobaiicoogaaGreatDoor
open Go.ChangeShapes Go.WideShapes Go.ChangeAt Go.RowKit
attribute [local go_sem] Oper.semAt_some

set_option maxHeartbeats 4000000 in
set_option maxRecDepth 20000 in
theorem ends_zero (n1 n2 : Nat) (a1 a2 : Option Addr) (c1 c2 : Nat) (w : World) (h : n1 = 0 ∨ (n1 ≠ 0 ∧ n2 = 0)) :
    Calls Tryz.prog 188 #[.agg #[.bool true, .slice a1 n1 c1], .agg #[.bool true, .slice a2 n2 c2]] w fun e w' => ∃ b, e = .returned (.bool b) ∧ Below w.heap.size w w' := by
  have HB := hide (below_then (below_alloc w (.cells #[.bool true, .slice a1 n1 c1] 190)) (below_alloc (w.alloc (.cells #[.bool true, .slice a1 n1 c1] 190)) (.cells #[.bool true, .slice a2 n2 c2] 190)))
  rcases h with rfl | ⟨h1, rfl⟩
  · go_enter Tryz.func188, Tryz.ntmps188
    go_wp2_with fail
    go_quiet (fail)
    go_wp2_with fail
    go_quiet (fail)
    go_wp2
    go_ret
    exact ⟨_, rfl, below_drewN (below_drewN (unhide HB) _) _⟩
  · have e1 : ((n1 : Int) == 0) = false := beq_eq_false_iff_ne.2 (by omega)
    clear h1
    go_enter Tryz.func188, Tryz.ntmps188
    go_wp2_with fail
    go_quiet (fail)
    go_wp2_with fail
    go_quiet (fail)
    go_wp2
    go_ret
    exact ⟨_, rfl, below_drewN (below_drewN (unhide HB) _) _⟩
set_option maxHeartbeats 4000000 in
set_option maxRecDepth 20000 in
theorem ends_some (k1 k2 b1 o1 b2 o2 c1 c2 : Nat) (x y : ByteArray) (w : World) (h1 : w.cell? ⟨b1, o1 + k1 * 6, none⟩ = some (.string x)) (h2 : w.cell? ⟨b2, o2 + k2 * 6, none⟩ = some (.string y)) (l1 : k1 < 1100) (l2 : k2 < 1100) :
    Calls Tryz.prog 188 #[.agg #[.bool true, .slice (some ⟨b1, o1, none⟩) (k1 + 1) c1], .agg #[.bool true, .slice (some ⟨b2, o2, none⟩) (k2 + 1) c2]] w fun e w' => ∃ b, e = .returned (.bool b) ∧ Below w.heap.size w w' := by
  have hb := below_then (below_alloc w (.cells #[.bool true, .slice (some ⟨b1, o1, none⟩) (k1 + 1) c1] 190)) (below_alloc (w.alloc (.cells #[.bool true, .slice (some ⟨b1, o1, none⟩) (k1 + 1) c1] 190)) (.cells #[.bool true, .slice (some ⟨b2, o2, none⟩) (k2 + 1) c2] 190))
  have x1 := (hb.cell (World.block_lt_of_cell? w _ h1)).trans h1
  have x2 := (hb.cell (World.block_lt_of_cell? w _ h2)).trans h2
  have hsz : (w.alloc (.cells #[.bool true, .slice (some ⟨b1, o1, none⟩) (k1 + 1) c1] 190)).heap.size = w.heap.size + 1 := World.size_alloc _ _
  have n1 := ((below_alloc (w.alloc (.cells #[.bool true, .slice (some ⟨b1, o1, none⟩) (k1 + 1) c1] 190)) (.cells #[.bool true, .slice (some ⟨b2, o2, none⟩) (k2 + 1) c2] 190)).block w.heap.size (by omega)).trans (heap_alloc_new w (.cells #[.bool true, .slice (some ⟨b1, o1, none⟩) (k1 + 1) c1] 190))
  have n2 := heap_alloc_new (w.alloc (.cells #[.bool true, .slice (some ⟨b1, o1, none⟩) (k1 + 1) c1] 190)) (.cells #[.bool true, .slice (some ⟨b2, o2, none⟩) (k2 + 1) c2] 190)
  rw [hsz] at n2
  have y1 := (blk_facts n1).1 1 _ rfl
  have y2 := (blk_facts n2).1 1 _ rfl
  have HB := hide hb
  have e1 : (((k1 : Int) + 1) == 0) = false := beq_eq_false_iff_ne.2 (by omega)
  have e2 : (((k2 : Int) + 1) == 0) = false := beq_eq_false_iff_ne.2 (by omega)
  have v1 : IntKind.i64.wrap (k1 : Int) = (k1 : Int) := by rw [IntKind.wrap_i64]; omega
  have v2 : IntKind.i64.wrap (k2 : Int) = (k2 : Int) := by rw [IntKind.wrap_i64]; omega
  clear hb hsz n1 n2 h1 h2
  go_enter Tryz.func188, Tryz.ntmps188
  go_wp2_with fail
  generalize ((w.alloc (.cells #[.bool true, .slice (some ⟨b1, o1, none⟩) (k1 + 1) c1] 190)).alloc (.cells #[.bool true, .slice (some ⟨b2, o2, none⟩) (k2 + 1) c2] 190)) = w1 at *
  go_quiet (fail)
  go_wp2_with fail
  go_quiet (fail)
  go_wp2
  go_ret
  exact ⟨_, rfl, below_drewN (below_drewN (unhide HB) _) _⟩
theorem ends_any (l1 l2 : List L6.It) (a1 a2 : Option Addr) (c1 c2 : Nat) (w : World) (h1 : RowD w a1 l1) (h2 : RowD w a2 l2) (hl1 : l1.length ≤ 1100) (hl2 : l2.length ≤ 1100) :
    Calls Tryz.prog 188 #[.agg #[.bool true, .slice a1 l1.length c1], .agg #[.bool true, .slice a2 l2.length c2]] w fun e w' => ∃ b, e = .returned (.bool b) ∧ Below w.heap.size w w' := by
  by_cases z1 : l1.length = 0
  · rw [z1]
    exact ends_zero _ _ _ _ _ _ w (.inl rfl)
  · by_cases z2 : l2.length = 0
    · rw [z2]
      exact ends_zero _ _ _ _ _ _ w (.inr ⟨z1, rfl⟩)
    · obtain ⟨k1, e1⟩ : ∃ k, l1.length = k + 1 := ⟨l1.length - 1, by omega⟩
      obtain ⟨k2, e2⟩ : ∃ k, l2.length = k + 1 := ⟨l2.length - 1, by omega⟩
      obtain ⟨x, hx⟩ := L6.get_some (show k1 < l1.length by omega)
      obtain ⟨y, hy⟩ := L6.get_some (show k2 < l2.length by omega)
      obtain ⟨b1, o1, rfl, p1, _⟩ := h1.at hx
      obtain ⟨b2, o2, rfl, p2, _⟩ := h2.at hy
      rw [e1, e2]
      exact ends_some k1 k2 b1 o1 b2 o2 c1 c2 _ _ w p1 p2 (by omega) (by omega)
end Go.Proofs.YtdelobaiicoogaaGreatDoor

/- topped: a leaf's plan. -/
namespace Go.Proofs.YtdelobaiicoogaaGreatDoor
open Go.ChangeShapes Go.WideShapes Go.ChangeAt Go.RowKit
attribute [local go_sem] Oper.semAt_some

/-- an entry that is a planned leaf -/
def planE (key : ByteArray) (a : Option Addr) (n cap : Nat) : Obj := .cells #[.string key, .string ⟨#[]⟩, .int .i64 0, .bool true, .slice a n cap, .int .i64 1] 192 (0, 0)
set_option maxHeartbeats 4000000 in
set_option maxRecDepth 20000 in
theorem topped_any (M : Nat) (l : List L6.It) (a : Option Addr) (cap : Nat) (f : Bool) (w : World) (h5 : w.cell? ⟨M, 5, none⟩ = some (.slice none 0 0)) (hr : RowD w a l) (ht : Tame l) (hs : lsz l ≤ 1007) (hne : l ≠ []) :
    Calls Tryz.prog 191 #[.pointer (some ⟨M, 0, none⟩), .agg #[.bool true, .slice a l.length cap], .bool f] w fun e w' => ∃ g, e = .returned (.agg #[.slice (some ⟨g, 0, none⟩) 1 1, .int .i64 0, .int .i64 1]) ∧ w.heap.size ≤ g ∧ w'.heap[g]? = some (planE ⟨#[]⟩ a l.length cap) ∧ Below w.heap.size w w' := by
  have b1 := below_alloc w (.cells #[.bool true, .slice a l.length cap] 190)
  have b2 := below_alloc (w.alloc (.cells #[.bool true, .slice a l.length cap] 190)) (.cells #[.slice none 0 0, .int .i64 0, .int .i64 0] 187)
  have hsz : (w.alloc (.cells #[.bool true, .slice a l.length cap] 190)).heap.size = w.heap.size + 1 := World.size_alloc _ _
  have hx := (b2.block w.heap.size (by omega)).trans (heap_alloc_new w (.cells #[.bool true, .slice a l.length cap] 190))
  have hn2 := heap_alloc_new (w.alloc (.cells #[.bool true, .slice a l.length cap] 190)) (.cells #[.slice none 0 0, .int .i64 0, .int .i64 0] 187)
  rw [hsz] at hn2
  have hb := below_then b1 b2
  have h5' := (hb.cell (World.block_lt_of_cell? w _ h5)).trans h5
  have HZ : Hid (w.heap.size + 2 = ((w.alloc (.cells #[.bool true, .slice a l.length cap] 190)).alloc (.cells #[.slice none 0 0, .int .i64 0, .int .i64 0] 187)).heap.size) := by show _ = _; rw [World.size_alloc, hsz]
  have HR := hide (hr.grow hb)
  have HB := hide hb
  have H5 := hide h5'
  have HX := hide hx
  have HN := hide hn2
  have HT := hide ht
  have HS := hide hs
  have hl : ((l.length : Int) == 0) = false := beq_eq_false_iff_ne.2 (by have := List.length_pos_iff.2 hne; omega)
  clear b1 b2 hsz hx hn2 hb h5' h5 hr ht hs hne
  go_enter Tryz.func191, Tryz.ntmps191
  go_wp2_with fail
  generalize ((w.alloc (.cells #[.bool true, .slice a l.length cap] 190)).alloc (.cells #[.slice none 0 0, .int .i64 0, .int .i64 0] 187)) = w1 at *
  obtain ⟨hc, _⟩ := blk_facts (unhide HX)
  have x0 := hc 0 _ rfl
  have x1 := hc 1 _ rfl
  clear hc
  go_wp2_with fail
  refine (isLonely_any _ w1).mono ?_
  rintro e w2 ⟨rfl, hb⟩
  have y0 := (hb.cell (World.block_lt_of_cell? w1 _ x0)).trans x0
  have y1 := (hb.cell (World.block_lt_of_cell? w1 _ x1)).trans x1
  have HR2 := hide ((unhide HR).grow hb)
  have HB2 := hide (below_then (unhide HB) hb)
  have H52 := hide ((hb.cell (World.block_lt_of_cell? w1 _ (unhide H5))).trans (unhide H5))
  have HN2 := hide ((hb.block (w.heap.size + 1) (by have := unhide HZ; omega)).trans (unhide HN))
  have HZ2 : Hid (w.heap.size + 2 ≤ w2.heap.size) := by show _ ≤ _; have := unhide HZ; have := hb.size; omega
  clear hb x0 x1 HR HB H5 HX HN HZ
  go_wp2_with fail
  refine (parts_any ⟨#[]⟩ l a cap f w2 (unhide HR2) (unhide HT) (unhide HS)).mono ?_
  rintro e w3 ⟨g, rfl, hg, hgb, hb⟩
  have HG := hide hg
  have HGB := hide hgb
  have HB3 := hide (below_then (unhide HB2) hb)
  have H53 := hide ((hb.cell (World.block_lt_of_cell? w2 _ (unhide H52))).trans (unhide H52))
  have HN3 := hide ((hb.block (w.heap.size + 1) (by have := unhide HZ2; omega)).trans (unhide HN2))
  have HZ3 : Hid (w.heap.size + 2 ≤ w3.heap.size) := by show _ ≤ _; have := unhide HZ2; have := hb.size; omega
  clear hb hg hgb y0 y1 HR2 HB2 H52 HN2
  go_wp2_with fail
  refine (levels_any M w3 (unhide H53)).mono ?_
  rintro e w3 ⟨rfl, rfl⟩
  go_wp2_with fail
  refine (crowned_any g 1 w3).mono ?_
  rintro e w4 ⟨rfl, hb⟩
  have hn := (hb.block (w.heap.size + 1) (by have := unhide HZ3; omega)).trans (unhide HN3)
  have HGB4 := hide ((hb.block g (Array.getElem?_eq_some_iff.1 (unhide HGB)).1).trans (unhide HGB))
  have HB4 := hide (below_then (unhide HB3) hb)
  obtain ⟨hc, hf⟩ := blk_facts hn
  have z0 := hc 0 _ rfl
  have z1 := hc 1 _ rfl
  have z2 := hc 2 _ rfl
  clear hc hb hn
  go_wp2
  refine bodyPost_ret (v := .agg #[.slice (some ⟨g, 0, none⟩) 1 1, .int .i64 0, .int .i64 1]) ?_ rfl ?_
  · rw [results_cell rfl]
    go_simp <;> rfl
  · refine ⟨g, rfl, by have := unhide HG; have := unhide HZ2; omega, ?_, L6.below_store (L6.below_store (L6.below_store (unhide HB4) (w.heap.size + 1) 0 _ (by omega)) (w.heap.size + 1) 1 _ (by omega)) (w.heap.size + 1) 2 _ (by omega)⟩
    have hgn : w.heap.size + 1 ≠ g := by have := unhide HG; have := unhide HZ2; omega
    have h := unhide HGB4
    simp [World.setCell, Array.getElem?_modify, hgn, h, planE]
end Go.Proofs.YtdelobaiicoogaaGreatDoor

/- pressOf; the plan of a maker without a way, where usual's plan is known. -/
namespace Go.Proofs.YtdelobaiicoogaaGreatDoor
open Go.ChangeShapes Go.WideShapes Go.ChangeAt Go.RowKit
attribute [local go_sem] Oper.semAt_some

set_option maxHeartbeats 1000000 in
theorem pressOf_any (p : Nat) (w : World) : Calls Tryz.prog 81 #[.pointer (some ⟨p, 0, none⟩)] w fun e w' => ∃ m1 m2, e = .returned (.agg #[.pointer (some ⟨p, 0, none⟩), .map (some m1), .int .i64 0, .map (some m2)]) ∧ w.heap.size ≤ m1 ∧ w.heap.size ≤ m2 ∧ Below w.heap.size w w' := by
  have hmm := @run_makeMap Tryz.prog
  go_enter Tryz.func81, Tryz.ntmps81
  go_wp2
  refine bodyPost_ret (v := .agg #[.pointer (some ⟨p, 0, none⟩), .map (some (w.heap.size + 1)), .int .i64 0, .map (some (w.heap.size + 1 + 1))]) ?_ rfl ?_
  · rw [results_cell rfl]
    go_simp <;> rfl
  · exact ⟨_, _, rfl, by omega, by omega, below_then (below_then (below_alloc _ _) (below_alloc _ _)) (below_alloc _ _)⟩

/-- a plan with one root -/
def planV (g : Nat) : Value := .agg #[.slice (some ⟨g, 0, none⟩) 1 1, .int .i64 0, .int .i64 1]
/-- what a plan is made with: it has one new entry -/
def PlanSaid (w : World) (K : Nat → World → Prop) (e : Ending) (w' : World) : Prop := ∃ g, e = .returned (planV g) ∧ w.heap.size ≤ g ∧ K g w' ∧ Below w.heap.size w w'
set_option maxHeartbeats 2000000 in
theorem simple_any (M : Nat) (K : Nat → World → Prop) (w : World) (h5 : w.cell? ⟨M, 5, none⟩ = some (.slice none 0 0))
    (hU : ∀ W, Below w.heap.size w W → w.heap.size < W.heap.size → Calls Tryz.prog 149 #[.pointer (some ⟨M, 0, none⟩)] W fun e w' => PlanSaid W K e w') (hS : ∀ g W j v, w.heap.size < g → K g W → K g (W.setCell ⟨w.heap.size, j, none⟩ v)) :
    Calls Tryz.prog 114 #[.pointer (some ⟨M, 0, none⟩)] w fun e w' => PlanSaid w K e w' := by
  have b1 := below_alloc w (.cells #[.slice none 0 0, .int .i64 0, .int .i64 0] 187)
  have hn := heap_alloc_new w (.cells #[.slice none 0 0, .int .i64 0, .int .i64 0] 187)
  have hsz : (w.alloc (.cells #[.slice none 0 0, .int .i64 0, .int .i64 0] 187)).heap.size = w.heap.size + 1 := World.size_alloc _ _
  have HT := hide (isTall_any M _ ((b1.cell (World.block_lt_of_cell? w _ h5)).trans h5))
  have HU := hide (hU _ b1 (by rw [hsz]; omega))
  have HB := hide b1
  have HN := hide hn
  have HZ := hide hsz
  clear b1 hn hsz h5 hU
  go_enter Tryz.func114, Tryz.ntmps114
  go_wp2_with fail
  generalize w.alloc (.cells #[.slice none 0 0, .int .i64 0, .int .i64 0] 187) = w1 at *
  refine (unhide HT).mono ?_
  rintro e w1 ⟨rfl, rfl⟩
  go_wp2_with fail
  refine (unhide HU).mono ?_
  rintro e w2 ⟨g, rfl, hg, hk, hb⟩
  unfold planV
  have hn := (hb.block w.heap.size (by have := unhide HZ; omega)).trans (unhide HN)
  obtain ⟨hc, hf⟩ := blk_facts hn
  have z0 := hc 0 _ rfl
  have z1 := hc 1 _ rfl
  have z2 := hc 2 _ rfl
  have HB2 := hide (below_then (unhide HB) hb)
  have HG := hide hg
  have HK := hide hk
  have HSS := hide hS
  clear hc hn hb hg hk hS
  go_wp2
  refine bodyPost_ret (v := planV g) ?_ rfl ?_
  · rw [results_cell rfl]
    unfold planV
    go_simp <;> rfl
  · have hgl : w.heap.size < g := by have := unhide HG; have := unhide HZ; omega
    exact ⟨g, rfl, Nat.le_of_lt hgl, unhide HSS _ _ _ _ hgl (unhide HSS _ _ _ _ hgl (unhide HSS _ _ _ _ hgl (unhide HK))), L6.below_store (L6.below_store (L6.below_store (unhide HB2) w.heap.size 0 _ (Nat.le_refl _)) w.heap.size 1 _ (Nat.le_refl _)) w.heap.size 2 _ (Nat.le_refl _)⟩

set_option maxHeartbeats 4000000 in
set_option maxRecDepth 20000 in
theorem best_any (M : Nat) (K : Nat → World → Prop) (hK : ∀ g W W', K g W → Below W.heap.size W W' → K g W') (w : World) (h5 : w.cell? ⟨M, 5, none⟩ = some (.slice none 0 0))
    (hU : ∀ W, Below w.heap.size w W → w.heap.size < W.heap.size → Calls Tryz.prog 114 #[.pointer (some ⟨M, 0, none⟩)] W fun e w' => PlanSaid W K e w') (hS : ∀ g W j v, w.heap.size < g → K g W → K g (W.setCell ⟨w.heap.size, j, none⟩ v)) :
    Calls Tryz.prog 82 #[.pointer (some ⟨M, 0, none⟩)] w fun e w' => PlanSaid w K e w' := by
  have b1 := below_alloc w (.cells #[.slice none 0 0, .int .i64 0, .int .i64 0] 187)
  have hn := heap_alloc_new w (.cells #[.slice none 0 0, .int .i64 0, .int .i64 0] 187)
  have hsz : (w.alloc (.cells #[.slice none 0 0, .int .i64 0, .int .i64 0] 187)).heap.size = w.heap.size + 1 := World.size_alloc _ _
  have H5 := hide ((b1.cell (World.block_lt_of_cell? w _ h5)).trans h5)
  have HU := hide (hU _ b1 (by rw [hsz]; omega))
  have HB := hide b1
  have HN := hide hn
  have HZ := hide hsz
  have HSS := hide hS
  have HKK := hide hK
  clear b1 hn hsz h5 hU hS hK
  go_enter Tryz.func82, Tryz.ntmps82
  go_wp2_with fail
  generalize w.alloc (.cells #[.slice none 0 0, .int .i64 0, .int .i64 0] 187) = w1 at *
  refine (unhide HU).mono ?_
  rintro e w2 ⟨g, rfl, hg, hk, hb⟩
  unfold planV
  have hb3 := below_alloc w2 (.cells #[.slice (some ⟨g, 0, none⟩) 1 1, .int .i64 0, .int .i64 1] 187)
  have hn := (hb3.block w.heap.size (by have := unhide HZ; have := hb.size; omega)).trans ((hb.block w.heap.size (by have := unhide HZ; omega)).trans (unhide HN))
  obtain ⟨hc, hf⟩ := blk_facts hn
  have z0 := hc 0 _ rfl
  have z1 := hc 1 _ rfl
  have z2 := hc 2 _ rfl
  have HX := hide (heap_alloc_new w2 (.cells #[.slice (some ⟨g, 0, none⟩) 1 1, .int .i64 0, .int .i64 1] 187))
  have HBS := hide (isBushy_any M (w2.alloc (.cells #[.slice (some ⟨g, 0, none⟩) 1 1, .int .i64 0, .int .i64 1] 187)).drew ((hb3.cell (World.block_lt_of_cell? w2 _ ((hb.cell (World.block_lt_of_cell? w1 _ (unhide H5))).trans (unhide H5)))).trans ((hb.cell (World.block_lt_of_cell? w1 _ (unhide H5))).trans (unhide H5))))
  have HB2 := hide (below_then (below_then (unhide HB) hb) hb3)
  have HG := hide hg
  have HK := hide (unhide HKK _ _ _ hk hb3)
  clear hc hn hb hg hk hb3 HN HU
  go_wp2_with fail
  obtain ⟨b, hbe⟩ : ∃ b, b = w2.heap.size := ⟨_, rfl⟩
  rw [← hbe] at HX ⊢
  clear hbe
  generalize w2.alloc (.cells #[.slice (some ⟨g, 0, none⟩) 1 1, .int .i64 0, .int .i64 1] 187) = w3 at *
  obtain ⟨hc, _⟩ := blk_facts (unhide HX)
  have x0 := hc 0 _ rfl
  have x1 := hc 1 _ rfl
  have x2 := hc 2 _ rfl
  clear hc
  refine wp_region_noPanic ?_
  refine wp_region_held_drew (S := fun w' => w' = w3.drew ∧ w'.cell? ⟨b, 0, none⟩ = some (.slice (some ⟨g, 0, none⟩) 1 1) ∧ w'.cell? ⟨b, 1, none⟩ = some (.int .i64 0) ∧ w'.cell? ⟨b, 2, none⟩ = some (.int .i64 1)) (by kernel_rfl) ⟨rfl, x0, x1, x2⟩ (fun hHeld => ?_)
  refine L6.takeY 0 (some 10) ?_ rfl rfl (by kernel_rfl) (by kernel_rfl) (by kernel_rfl) (fun _ _ _ h => h) (by rfl) ?_ hHeld ?_
  rotate_left
  · intro w hSw; go_simp <;> with_reducible rfl
  simp only [Act.put, List.setIfInBounds_toArray, List.set_cons_zero, List.set_cons_succ]
  refine L6.takeY 1 (some 11) ?_ rfl rfl (by kernel_rfl) (by kernel_rfl) (by kernel_rfl) (fun _ _ _ h => h) (by rfl) ?_ hHeld ?_
  rotate_left
  · intro w hSw; go_simp <;> with_reducible rfl
  simp only [Act.put, List.setIfInBounds_toArray, List.set_cons_zero, List.set_cons_succ]
  refine L6.takeY 2 (some 12) ?_ rfl rfl (by kernel_rfl) (by kernel_rfl) (by kernel_rfl) (fun _ _ _ h => h) (by rfl) ?_ hHeld ?_
  rotate_left
  · intro w hSw; go_simp <;> with_reducible rfl
  simp only [Act.put, List.setIfInBounds_toArray, List.set_cons_zero, List.set_cons_succ]
  refine L6.takeY 3 (some 13) ?_ rfl rfl (by kernel_rfl) (by kernel_rfl) (by kernel_rfl) (fun _ _ _ h => h) (by rfl) ?_ hHeld ?_
  rotate_left
  · intro w hSw; go_simp <;> with_reducible rfl
  simp only [Act.put, List.setIfInBounds_toArray, List.set_cons_zero, List.set_cons_succ]
  refine L6.takeY 4 (some 14) ?_ rfl rfl (by kernel_rfl) (by kernel_rfl) (by kernel_rfl) (fun _ _ _ h => h) (by rfl) ?_ hHeld ?_
  rotate_left
  · intro w hSw; go_simp <;> with_reducible rfl
  simp only [Act.put, List.setIfInBounds_toArray, List.set_cons_zero, List.set_cons_succ]
  refine wpAnyH_ready (rs := [5]) (by kernel_rfl) (by simp) ?_
  refine AllReadyH.cons rfl (fun K hK => ?_) AllReadyH.nil
  go_simp
  refine (unhide HBS).mono ?_
  rintro e wz ⟨rfl, hw⟩
  subst hw
  refine hK.out _ _ hHeld (fun hHeld => ?_)
  clear hK K
  try simp only [Act.put, List.setIfInBounds_toArray, List.set_cons_zero, List.set_cons_succ]
  refine L6.takeY 6 (some 16) ?_ rfl rfl (by kernel_rfl) (by kernel_rfl) (by kernel_rfl) (fun _ _ _ h => h) (by rfl) ?_ hHeld ?_
  rotate_left
  · intro w hSw; go_simp <;> with_reducible rfl
  simp only [Act.put, List.setIfInBounds_toArray, List.set_cons_zero, List.set_cons_succ]
  refine L6.takeN 7 (some 17) rfl rfl (by kernel_rfl) (by kernel_rfl) (by kernel_rfl) (fun _ _ _ h => h) (by rfl) hHeld ?_
  simp only [Act.put, List.setIfInBounds_toArray, List.set_cons_zero, List.set_cons_succ]
  refine L6.takeN 8 (some 18) rfl rfl (by kernel_rfl) (by kernel_rfl) (by kernel_rfl) (fun _ _ _ h => h) (by rfl) hHeld ?_
  simp only [Act.put, List.setIfInBounds_toArray, List.set_cons_zero, List.set_cons_succ]
  refine L6.takeN 9 (some 19) rfl rfl (by kernel_rfl) (by kernel_rfl) (by kernel_rfl) (fun _ _ _ h => h) (by rfl) hHeld ?_
  simp only [Act.put, List.setIfInBounds_toArray, List.set_cons_zero, List.set_cons_succ]
  refine L6.takeN 10 (some 20) rfl rfl (by kernel_rfl) (by kernel_rfl) (by kernel_rfl) (fun _ _ _ h => h) (by rfl) hHeld ?_
  simp only [Act.put, List.setIfInBounds_toArray, List.set_cons_zero, List.set_cons_succ]
  refine L6.takeN 11 (some 21) rfl rfl (by kernel_rfl) (by kernel_rfl) (by kernel_rfl) (fun _ _ _ h => h) (by rfl) hHeld ?_
  simp only [Act.put, List.setIfInBounds_toArray, List.set_cons_zero, List.set_cons_succ]
  refine L6.takeN 12 (some 22) rfl rfl (by kernel_rfl) (by kernel_rfl) (by kernel_rfl) (fun _ _ _ h => h) (by rfl) hHeld ?_
  simp only [Act.put, List.setIfInBounds_toArray, List.set_cons_zero, List.set_cons_succ]
  refine L6.takeN 13 (some 23) rfl rfl (by kernel_rfl) (by kernel_rfl) (by kernel_rfl) (fun _ _ _ h => h) (by rfl) hHeld ?_
  simp only [Act.put, List.setIfInBounds_toArray, List.set_cons_zero, List.set_cons_succ]
  refine L6.takeY 14 (some 24) ?_ rfl rfl (by kernel_rfl) (by kernel_rfl) (by kernel_rfl) (fun _ _ _ h => h) (by rfl) ?_ hHeld ?_
  rotate_left
  · intro w hSw; go_simp <;> with_reducible rfl
  simp only [Act.put, List.setIfInBounds_toArray, List.set_cons_zero, List.set_cons_succ]
  refine L6.takeY 15 (some 25) ?_ rfl rfl (by kernel_rfl) (by kernel_rfl) (by kernel_rfl) (fun _ _ _ h => h) (by rfl) ?_ hHeld ?_
  rotate_left
  · intro w hSw; go_simp <;> with_reducible rfl
  simp only [Act.put, List.setIfInBounds_toArray, List.set_cons_zero, List.set_cons_succ]
  refine wpAnyH_done (by kernel_rfl) ?_ _
  refine NoPanic.normal ?_
  go_wp2
  refine bodyPost_ret (v := planV g) ?_ rfl ?_
  · rw [results_cell rfl]
    unfold planV
    go_simp <;> rfl
  · have hgl : w.heap.size < g := by have := unhide HG; have := unhide HZ; omega
    exact ⟨g, rfl, Nat.le_of_lt hgl, unhide HSS _ _ _ _ hgl (unhide HSS _ _ _ _ hgl (unhide HSS _ _ _ _ hgl (unhide HKK _ _ _ (unhide HK) (below_drew _)))), L6.below_store (L6.below_store (L6.below_store ((unhide HB2).drew) w.heap.size 0 _ (Nat.le_refl _)) w.heap.size 1 _ (Nat.le_refl _)) w.heap.size 2 _ (Nat.le_refl _)⟩
end Go.Proofs.YtdelobaiicoogaaGreatDoor

/- release: of one place, the answer's own; the deferred closure. -/
namespace Go.Proofs.YtdelobaiicoogaaGreatDoor
open Go.ChangeShapes Go.WideShapes Go.ChangeAt Go.RowKit
attribute [local go_sem] Oper.semAt_some

set_option maxHeartbeats 1000000 in
/-- nothing was put -/
theorem release_none (M : Nat) (q : Int) (w : World) (h10 : w.cell? ⟨M, 10, none⟩ = some (.slice none 0 0)) :
    Calls Tryz.prog 84 #[.pointer (some ⟨M, 0, none⟩), .int .i64 q] w fun e w' => e = .returned (.tuple #[]) ∧ w' = w := by
  go_enter Tryz.func84, Tryz.ntmps84
  go_wp2
  refine wp_loop_rounds 1 ?_
  rw [rounds_succ]
  go_wp2
  all_goals first | go_end0 | (refine bodyPost_ret (results_none rfl _ _ _) rfl ?_) | skip
  all_goals first | exact ⟨rfl, rfl⟩ | skip

set_option maxHeartbeats 1000000 in
/-- the answer alone was put -/
theorem release_one (M g : Nat) (cap : Nat) (q : Int) (w : World) (h10 : w.cell? ⟨M, 10, none⟩ = some (.slice (some ⟨g, 0, none⟩) 1 cap)) (hg : w.cell? ⟨g, 0, none⟩ = some (.int .i64 q)) :
    Calls Tryz.prog 84 #[.pointer (some ⟨M, 0, none⟩), .int .i64 q] w fun e w' => e = .returned (.tuple #[]) ∧ w' = w := by
  go_enter Tryz.func84, Tryz.ntmps84
  go_wp2
  refine wp_loop_rounds 2 ?_
  rw [rounds_succ]
  go_wp2
  rw [rounds_succ]
  go_wp2
  all_goals first | go_end0 | (refine bodyPost_ret (results_none rfl _ _ _) rfl ?_) | skip
  all_goals first | exact ⟨rfl, rfl⟩ | skip
end Go.Proofs.YtdelobaiicoogaaGreatDoor

/- the deferred closure of changed. -/
namespace Go.Proofs.YtdelobaiicoogaaGreatDoor
open Go.ChangeShapes Go.WideShapes Go.ChangeAt Go.RowKit
attribute [local go_sem] Oper.semAt_some

set_option maxHeartbeats 1000000 in
theorem closes_one (M g b c : Nat) (cap : Nat) (q : Int) (u : FrameMode) (w : World) (hb : w.cell? ⟨b, 0, none⟩ = some (.pointer (some ⟨M, 0, none⟩))) (hc : w.cell? ⟨c, 0, none⟩ = some (.int .i64 q))
    (h10 : w.cell? ⟨M, 10, none⟩ = some (.slice (some ⟨g, 0, none⟩) 1 cap)) (hg : w.cell? ⟨g, 0, none⟩ = some (.int .i64 q)) :
    CallsD Tryz.prog 83 #[.pointer (some ⟨b, 0, none⟩), .pointer (some ⟨c, 0, none⟩)] u w fun e u' w' => u' = u ∧ e = .returned (.tuple #[]) ∧ w' = w := by
  have HR := hide (release_one M g cap q w h10 hg)
  go_enter_d Tryz.func83, Tryz.ntmps83
  go_wp2_with fail
  refine (unhide HR).mono ?_
  rintro e w' ⟨rfl, rfl⟩
  go_wp2
  go_end0
  exact ⟨rfl, rfl⟩
end Go.Proofs.YtdelobaiicoogaaGreatDoor

/- Put of a node without kids: what is known of kids stays just as it was. -/
namespace Go.Proofs.YtdelobaiicoogaaGreatDoor
open Go.ChangeShapes Go.WideShapes Go.ChangeAt Go.RowKit
variable {w w' : World} {p d : Nat} {h : Hp} {c : Nat} {F : List Nat} {a b kb : Nat} {fd : List Nat} {kf : Nat → Option Value}

set_option maxHeartbeats 1000000 in
theorem know_nil (p q : Nat) (a0 : Option Addr) (cap0 : Nat) (w : World) : Calls Tryz.prog 29 #[.pointer (some ⟨p, 0, none⟩), .int .i64 (q : Int), .slice a0 0 cap0] w fun e w' => e = .returned (.tuple #[]) ∧ Below w.heap.size w w' := by
  have hn : ¬ (0 : Int) < (((0 : Nat) : Nat) : Int) := by simp
  go_enter Tryz.func29, Tryz.ntmps29
  go_wp2
  go_end0
  exact ⟨rfl, Below.refl _ _⟩
set_option maxHeartbeats 4000000 in
set_option maxRecDepth 20000 in
theorem hput_bareS {a b kb : Nat} {fd : List Nat} {kf : Nat → Option Value} (n : L6.Nd) (hpl : places n = []) (ai ak : Option Addr) (ci ck : Nat) (w : World) (H : HeapAt w p d h c a b kb fd kf) (hn : L6.Has w n ai ak) (hil : n.its.length ≤ 1100) (hkl : n.kds.length ≤ 1100) (hbare : h.bare) (hc : c ≤ 999990) (hok : (putR h n).2.1 = 0) :
    Calls Tryz.prog 10 #[.pointer (some ⟨p, 0, none⟩), .agg #[.bool n.leaf, .slice ai n.its.length ci, .slice ak n.kds.length ck]] w fun e w' => e = .returned (.tuple #[.int .i64 (putR h n).1, .int .i64 0]) ∧ STurned w w' p d (putR h n).2.2 (c + 2) a b kb fd kf := by
  have HPL := hide hpl
  have HOK := hide hok
  have hE : (L6.encodeN n).2 = 0 := by
    by_cases q : (L6.encodeN n).2 = 0
    · exact q
    · unfold putR at hok
      rw [if_pos q] at hok
      have hok2 : (((L6.encodeN n).2 : Nat) : Int) = 0 := hok
      omega
  have hM : mayE h.al (places n) = 0 := by
    by_cases q : mayE h.al (places n) = 0
    · exact q
    · unfold putR at hok
      rw [if_neg (fun hn => hn hE), if_pos q] at hok
      exact hok
  have hW : (storeR h (sectorN h.gen n)).2.1 = 0 := by
    by_cases q : (storeR h (sectorN h.gen n)).2.1 = 0
    · exact q
    · unfold putR at hok
      rw [if_neg (fun hn => hn hE), if_neg (fun hn => hn hM), if_pos q] at hok
      exact hok
  have HHM := hide hM
  have HHW := hide hW
  clear hpl hok hM hW
  have hb0 := below_alloc w (.cells #[.bool n.leaf, .slice ai n.its.length ci, .slice ak n.kds.length ck] 38)
  have q0 : (w.alloc (.cells #[.bool n.leaf, .slice ai n.its.length ci, .slice ak n.kds.length ck] 38)).cell? ⟨w.heap.size, 0, none⟩ = some (.bool n.leaf) := by simp
  have q1 : (w.alloc (.cells #[.bool n.leaf, .slice ai n.its.length ci, .slice ak n.kds.length ck] 38)).cell? ⟨w.heap.size, 1, none⟩ = some (.slice ai n.its.length ci) := by simp
  have q2 : (w.alloc (.cells #[.bool n.leaf, .slice ai n.its.length ci, .slice ak n.kds.length ck] 38)).cell? ⟨w.heap.size, 2, none⟩ = some (.slice ak n.kds.length ck) := by simp
  have HN := hide (hn.grow hb0)
  have HH := hide (H.grow hb0)
  have HH0 := hide H
  have HB := hide hb0
  have HIL := hide hil
  have HKL := hide hkl
  have HBR := hide hbare
  have HC := hide hc
  clear hn H hb0 hil hkl hbare hc
  obtain ⟨B, hB⟩ : ∃ x, x = w.heap.size := ⟨_, rfl⟩
  · go_enter Tryz.func10, Tryz.ntmps10
    go_wp2_with fail
    have HE := hide hE
    rw [← hB] at q0 q1 q2 ⊢
    have HBE := hide hB
    clear hB
    generalize w.alloc (.cells #[.bool n.leaf, .slice ai n.its.length ci, .slice ak n.kds.length ck] 38) = w1 at *
    refine (L6.encode_any n ai ak ci ck w1 (unhide HN) (unhide HIL) (unhide HKL)).mono ?_
    rintro x w2 ⟨rfl, hb2⟩
    rw [hE]
    clear hE
    obtain ⟨Y, hY⟩ : ∃ x, x = (L6.encodeN n).1 := ⟨_, rfl⟩
    rw [← hY]
    have HY := hide hY
    clear hY
    have q0' := (hb2.cell (World.block_lt_of_cell? _ _ q0)).trans q0
    have q1' := (hb2.cell (World.block_lt_of_cell? _ _ q1)).trans q1
    have q2' := (hb2.cell (World.block_lt_of_cell? _ _ q2)).trans q2
    have HN2 := hide ((unhide HN).grow hb2)
    have HH2 := hide ((unhide HH).grow hb2)
    have HB2 := hide (below_then (unhide HB) hb2)
    clear hb2 q0 q1 q2 HN HH HB
    go_wp2_with fail
    refine (placesOf_any n.kds ak ck w2 (unhide HN2).2 (unhide HKL)).mono ?_
    rintro x w3 ⟨v, rfl, hv3, hg3, hb3⟩
    have q0 := (hb3.cell (World.block_lt_of_cell? _ _ q0')).trans q0'
    have q1 := (hb3.cell (World.block_lt_of_cell? _ _ q1')).trans q1'
    have q2 := (hb3.cell (World.block_lt_of_cell? _ _ q2')).trans q2'
    have HV := hide hv3
    have HH3 := hide ((unhide HH2).grow hb3)
    have HB3 := hide (below_then (unhide HB2) hb3)
    clear hb3 hv3 hg3 q0' q1' q2' HN2 HH2 HB2
    have hks : n.kds.map (fun x => x.2) = places n := rfl
    rw [hks] at HV
    have hlen : (places n).length ≤ 1100 := by unfold places; rw [List.length_map]; exact unhide HKL
    have HLEN := hide hlen
    clear hks hlen
    go_wp2_with fail
    refine (mayHold_any (places n) v w3 ⟨a, b, kb, fd, kf, unhide HH3, rfl⟩ (unhide HV) (enc_places (unhide HE)) (unhide HLEN)).mono ?_
    rintro x w4 ⟨rfl, hb4⟩
    have q0' := (hb4.cell (World.block_lt_of_cell? _ _ q0)).trans q0
    have q1' := (hb4.cell (World.block_lt_of_cell? _ _ q1)).trans q1
    have q2' := (hb4.cell (World.block_lt_of_cell? _ _ q2)).trans q2
    have HV4 := hide ((unhide HV).grow hb4)
    have HH4 := hide ((unhide HH3).grow hb4)
    have HB4 := hide (below_then (unhide HB3) hb4)
    clear hb4 q0 q1 q2 HV HH3 HB3
    have hM := unhide HHM
    · rw [hM]
      have HM := hide hM
      clear hM
      go_wp2_with fail
      have H4 := unhide HH4
      clear HH4
      have hBF : B ∉ foot p a b kb fd := fun hx => by
        have := (unhide HH0).lt B hx
        have := unhide HBE
        omega
      have HBF := hide hBF
      have p0 := H4.cell0
      have p1 := H4.cell1
      have p2 := H4.cell2
      have HH4 : Hid (HeapAt w4.drew p d h c a b kb fd kf) := H4.grow (below_drew w4)
      have hkn : (if n.leaf then (1 : Int) else 2) = ((kindN n : Nat) : Int) := by unfold kindN; split <;> rfl
      have HKN := hide hkn
      have HV4' : Hid (Ints w4.drew v (places n)) := (unhide HV4).grow (below_drew w4)
      have HB4' : Hid (Below w.heap.size w w4.drew) := below_then (unhide HB4) (below_drew w4)
      clear hBF H4 hkn HV4 HB4
      have HV4 := HV4'
      have HB4 := HB4'
      clear HV4' HB4'
      have hSX : (L4.wrapR ((kindN n : Nat) : Int) h.gen Y).1 = sectorN h.gen n := by unfold sectorN; rw [unhide HY]
      have HSX := hide hSX
      clear hSX
      have hW := unhide HHW
      · obtain ⟨i, hi, hst, _⟩ := storeR_ok hW
        have hD : putR h n = ((2 : Int) + (i : Int), 0, { dk := L3.writeM h.dk ((2 : Int) + (i : Int)) (sectorN h.gen n), al := holdAll (L5.takeM h.al h.gen) (places n), gen := h.gen, kids := setK h.kids (2 + i) (places n) }) := by
          unfold putR
          rw [if_neg (fun hn => hn (unhide HE)), if_neg (fun hn => hn (unhide HM)), if_neg (fun hn => hn hW), hst]
          have e : ((2 : Int) + (i : Int)).toNat = 2 + i := by omega
          simp only [e]
        have HD := hide hD
        have HST := hide hst
        obtain ⟨hin, hsn, _⟩ := take_at hi h.gen
        have hfew := (unhide HH4).al.ok.few
        have hi4 : 2 + i < 4096 := by unfold L5.In at hin; omega
        have hk0 : h.kids (2 + i) = [] := unhide HBR (2 + i) (by
          show L5.cntS (L5.sec 2 h.al ((2 + i : Nat) : Int)) = 0
          have e : ((2 + i : Nat) : Int) = (2 : Int) + (i : Int) := by omega
          rw [e, hsn]
          rfl)
        have HI4 := hide hi4
        have HK0 := hide hk0
        clear hW hD hst hin hsn hfew hi hi4 hk0
        obtain ⟨N, hN⟩ : ∃ x : Int, x = (2 : Int) + (i : Int) := ⟨_, rfl⟩
        rw [← hN] at HD HST
        have HNE := hide hN
        clear hN
        go_region_held3 (fun w' => w'.cell? ⟨p, 0, none⟩ = some (.pointer (some ⟨a, 0, none⟩)) ∧ w'.cell? ⟨p, 1, none⟩ = some (.pointer (some ⟨d, 0, none⟩)) ∧ w'.cell? ⟨p, 2, none⟩ = some (.int .i64 h.gen) ∧ w'.cell? ⟨B, 0, none⟩ = some (.bool n.leaf) ∧ w'.cell? ⟨B, 1, none⟩ = some (.slice ai n.its.length ci) ∧ w'.cell? ⟨B, 2, none⟩ = some (.slice ak n.kds.length ck))
          (first | assumption | exact ⟨p0, p1, p2, q0', q1', q2'⟩ | exact ⟨r0, r1, r2, s0, s1, s2⟩ | exact unhide HS6)
          (first
            | (go_at_call 27; go_split_ands; refine (kindOf_any n.leaf _ _ _).mono ?_; rintro e w5 ⟨rfl, hb5⟩; rw [unhide HKN]; have H5 := (unhide HH4).grow hb5; have r0 := H5.cell0; have r1 := H5.cell1; have r2 := H5.cell2; have s0 := (hb5.cell (World.block_lt_of_cell? _ _ (show w4.drew.cell? _ = _ from q0'))).trans q0'; have s1 := (hb5.cell (World.block_lt_of_cell? _ _ (show w4.drew.cell? _ = _ from q1'))).trans q1'; have s2 := (hb5.cell (World.block_lt_of_cell? _ _ (show w4.drew.cell? _ = _ from q2'))).trans q2'; have HH5 := hide H5; have HB5 := hide (below_then (unhide HB4) hb5); have HV5 := hide ((unhide HV4).grow hb5); clear hb5 H5)
            | (go_at_call 26; go_split_ands; refine (store_any (kindN n) Y _ (unhide HH5) (kindN_le n) (by rw [unhide HY]; exact enc_size (unhide HE)) (by have := unhide HC; omega)).mono ?_; rintro e w6 ⟨rfl, ht6⟩; have HS6 := hide (store_cells ht6 (unhide HBF) s0 s1 s2); have HT6 := hide ht6; rw [unhide HSX, unhide HST]; dsimp only; clear ht6))
        clear r0 r1 r2 s0 s1 s2 p0 p1 p2 q0' q1' q2' HS6
        have HT : Hid (STurned w w6 p d { dk := L3.writeM h.dk N (sectorN h.gen n), al := L5.takeM h.al h.gen, gen := h.gen, kids := h.kids } (c + 1) a b kb fd kf) := by
          obtain ⟨fd', k1, k2, k3⟩ := unhide HT6
          rw [unhide HSX, unhide HST] at k1
          refine ⟨fd', k1, L5.Moves.then (L5.Moves.of_below _ (unhide HB5)) k2, fun x hx => ?_⟩
          rcases k3 x hx with q | q
          · exact .inl q
          · exact .inr (Nat.le_trans (unhide HB5).size q)
        have HV6 : Hid (Ints w6 v (places n)) := by
          obtain ⟨fd', _, k2, _⟩ := unhide HT6
          exact IsHeap.ints ⟨a, b, kb, fd, kf, unhide HH5, rfl⟩ (unhide HV5) k2
        clear HT6 HH4 HH5 HV4 HV5 HB4 HB5
        obtain ⟨a0, cap0, rfl⟩ := (unhide HV6).form
        go_wp2_with fail
        refine wp_loop_rounds 1 ?_
        have hl0 : (places n).length = 0 := by rw [unhide HPL]; rfl
        rw [hl0]
        rw [rounds_succ]
        have hv6 := unhide HV6
        rw [unhide HPL] at hv6
        have HV7 := hide hv6
        have hNn : N = ((2 + i : Nat) : Int) := by rw [unhide HNE]; omega
        have HNn := hide hNn
        clear hNn hv6 HV6
        go_wp2_with (go_at_call 29; rw [unhide HNn]; refine (know_nil p (2 + i) a0 cap0 _).mono ?_; rintro e w8 ⟨rfl, hb8⟩; have HB8 := hide hb8; clear hb8)
        go_ret2
        rw [unhide HD]
        refine ⟨by rw [unhide HNE]; rfl, ?_⟩
        obtain ⟨fd', k1, k2, k3⟩ := unhide HT
        have e1 : setK h.kids (2 + i) (places n) = h.kids := by
          rw [unhide HPL]
          funext j
          unfold setK
          split
          · rename_i e; rw [e, unhide HK0]
          · rfl
        rw [e1, unhide HPL]
        refine ⟨fd', (k1.grow (unhide HB8)).mono (by omega), L5.Moves.then k2 (L5.Moves.of_below _ (unhide HB8)), k3⟩
end Go.Proofs.YtdelobaiicoogaaGreatDoor
