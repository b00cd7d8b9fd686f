/- What blockOf does: the block that the bytes ahead of the sum tell, or the error. -/
import Derived.Test.YtdkgifjmahkiaaaDoorL4At
import Derived.Laws.ResultCell
namespace Go.Proofs.YtdkgifjmahkiaaaDoor.L4
open Go.ChangeShapes Go.WideShapes Go.ChangeAt Go.RowKit

theorem below_set {W w : World} {g j : Nat} {u : Value} (h : Below W.heap.size W w) (hg : W.heap.size ≤ g) : Below W.heap.size W (w.setCell ⟨g, j, none⟩ u) :=
  h.grown (grown_set w g j u) h.size (fun k hk => by cases hk; exact hg)

set_option maxRecDepth 10000 in
set_option maxHeartbeats 1000000 in
theorem blockOf_prefix (U : ByteArray) (w : World) (x2 n G : Nat) (hU : U.size = 1020) (e2 : (bn U).getD 2 0 = x2) (en : Blk.lenOf (bn U) = n) (eG : Pk.fixN (((bn U).drop 5).take 8) = G) (hp : Lib.hasPrefix U.data.toList [67, 80] = false) :
    Calls Tryd.prog 33 #[.string U] w fun e w' => e = .returned (.tuple #[.agg #[.int .i64 0, .int .i64 0, .string ⟨#[]⟩], .int .i64 21]) ∧ Below w.heap.size w w' := by
  have l2 := getD_lt (bn_lt U) 2
  have l3 := getD_lt (bn_lt U) 3
  have l4 := getD_lt (bn_lt U) 4
  obtain ⟨x3, e3⟩ : ∃ x, (bn U).getD 3 0 = x := ⟨_, rfl⟩
  obtain ⟨x4, e4⟩ : ∃ x, (bn U).getD 4 0 = x := ⟨_, rfl⟩
  rw [e2] at l2
  rw [e3] at l3
  rw [e4] at l4
  have E2 := hide e2
  have E3 := hide e3
  have E4 := hide e4
  have EG := hide eG
  have HP := hide (fun w' => prefix_any U ⟨#[67, 80]⟩ w')
  have hp' : Lib.hasPrefix U.data.toList (⟨#[67, 80]⟩ : ByteArray).data.toList = false := hp
  rw [hp'] at HP
  have ho := or_i64 x3 x4 l3 l4
  have hnn : x3 * 256 + x4 = n := by rw [← en, Blk.lenOf, e3, e4]
  rw [hnn] at ho
  have hv1 : (x3 : Int) * 256 + (x4 : Int) = (n : Int) := by omega
  clear e2 e3 e4 eG hp hp' en hnn
  go_enter Tryd.func33, Tryd.ntmps33
  go_wp2_with (first
    | (go_at_call 34; refine (read_step' w U _ (by rw [hU])).mono ?_; rintro e w1 ⟨r, rfl, h2⟩)
    | (go_at_call 43; refine (byte_step (k := 2) (j := 3) h2 (by omega) rfl (unhide E2) (by omega)).mono ?_; rintro e w2 ⟨rfl, h3⟩; clear h2)
    | (go_at_call 43; refine (byte_step (k := 3) (j := 4) h3 (by omega) rfl (unhide E3) (by omega)).mono ?_; rintro e w3 ⟨rfl, h4⟩; clear h3)
    | (go_at_call 43; refine (byte_step (k := 4) (j := 5) h4 (by omega) rfl (unhide E4) (by omega)).mono ?_; rintro e w4 ⟨rfl, h5⟩; clear h4)
    | (go_at_call 35; refine (fixed_step' (k := 5) h5 (by omega) (unhide EG) (by omega)).mono ?_; rintro e w5 ⟨rfl, h6⟩; clear h5; obtain ⟨c0, c1, c2, cf⟩ := h6.cells)
    | (go_at_call 37; refine (unhide HP _).mono ?_; rintro e w6 ⟨rfl, hw⟩; have hw := hw.symm; subst hw))
  refine bodyPost_ret (v := .tuple #[.agg #[.int .i64 0, .int .i64 0, .string ⟨#[]⟩], .int .i64 21]) ?_ rfl ⟨rfl, ?_⟩
  · rw [results_cell_tmp rfl]
    go_simp
  · exact below_set (below_set (below_set h6.1 (Nat.le_refl _)) (Nat.le_refl _)) (Nat.le_refl _)

set_option maxRecDepth 10000 in
set_option maxHeartbeats 1000000 in
theorem blockOf_long (U : ByteArray) (w : World) (x2 n G : Nat) (hU : U.size = 1020) (e2 : (bn U).getD 2 0 = x2) (en : Blk.lenOf (bn U) = n) (eG : Pk.fixN (((bn U).drop 5).take 8) = G) (hp : Lib.hasPrefix U.data.toList [67, 80] = true) (hn : 1007 < n) :
    Calls Tryd.prog 33 #[.string U] w fun e w' => e = .returned (.tuple #[.agg #[.int .i64 0, .int .i64 0, .string ⟨#[]⟩], .int .i64 21]) ∧ Below w.heap.size w w' := by
  have l2 := getD_lt (bn_lt U) 2
  have l3 := getD_lt (bn_lt U) 3
  have l4 := getD_lt (bn_lt U) 4
  obtain ⟨x3, e3⟩ : ∃ x, (bn U).getD 3 0 = x := ⟨_, rfl⟩
  obtain ⟨x4, e4⟩ : ∃ x, (bn U).getD 4 0 = x := ⟨_, rfl⟩
  rw [e2] at l2
  rw [e3] at l3
  rw [e4] at l4
  have E2 := hide e2
  have E3 := hide e3
  have E4 := hide e4
  have EG := hide eG
  have HP := hide (fun w' => prefix_any U ⟨#[67, 80]⟩ w')
  have hp' : Lib.hasPrefix U.data.toList (⟨#[67, 80]⟩ : ByteArray).data.toList = true := hp
  rw [hp'] at HP
  have ho := or_i64 x3 x4 l3 l4
  have hnn : x3 * 256 + x4 = n := by rw [← en, Blk.lenOf, e3, e4]
  rw [hnn] at ho
  have hv1 : (x3 : Int) * 256 + (x4 : Int) = (n : Int) := by omega
  clear e2 e3 e4 eG hp hp' en hnn
  have i1 : (1007 : Int) < (n : Int) := by omega
  go_enter Tryd.func33, Tryd.ntmps33
  go_wp2_with (first
    | (go_at_call 34; refine (read_step' w U _ (by rw [hU])).mono ?_; rintro e w1 ⟨r, rfl, h2⟩)
    | (go_at_call 43; refine (byte_step (k := 2) (j := 3) h2 (by omega) rfl (unhide E2) (by omega)).mono ?_; rintro e w2 ⟨rfl, h3⟩; clear h2)
    | (go_at_call 43; refine (byte_step (k := 3) (j := 4) h3 (by omega) rfl (unhide E3) (by omega)).mono ?_; rintro e w3 ⟨rfl, h4⟩; clear h3)
    | (go_at_call 43; refine (byte_step (k := 4) (j := 5) h4 (by omega) rfl (unhide E4) (by omega)).mono ?_; rintro e w4 ⟨rfl, h5⟩; clear h4)
    | (go_at_call 35; refine (fixed_step' (k := 5) h5 (by omega) (unhide EG) (by omega)).mono ?_; rintro e w5 ⟨rfl, h6⟩; clear h5; obtain ⟨c0, c1, c2, cf⟩ := h6.cells)
    | (go_at_call 37; refine (unhide HP _).mono ?_; rintro e w6 ⟨rfl, hw⟩; have hw := hw.symm; subst hw))
  refine bodyPost_ret (v := .tuple #[.agg #[.int .i64 0, .int .i64 0, .string ⟨#[]⟩], .int .i64 21]) ?_ rfl ⟨rfl, ?_⟩
  · rw [results_cell_tmp rfl]
    go_simp
  · exact below_set (below_set (below_set h6.1 (Nat.le_refl _)) (Nat.le_refl _)) (Nat.le_refl _)

set_option maxRecDepth 10000 in
set_option maxHeartbeats 1000000 in
theorem blockOf_gen (U : ByteArray) (w : World) (x2 n G : Nat) (hU : U.size = 1020) (e2 : (bn U).getD 2 0 = x2) (en : Blk.lenOf (bn U) = n) (eG : Pk.fixN (((bn U).drop 5).take 8) = G) (hp : Lib.hasPrefix U.data.toList [67, 80] = true) (hn : n ≤ 1007) (hg : 1152921504606846976 < G) :
    Calls Tryd.prog 33 #[.string U] w fun e w' => e = .returned (.tuple #[.agg #[.int .i64 0, .int .i64 0, .string ⟨#[]⟩], .int .i64 21]) ∧ Below w.heap.size w w' := by
  have l2 := getD_lt (bn_lt U) 2
  have l3 := getD_lt (bn_lt U) 3
  have l4 := getD_lt (bn_lt U) 4
  obtain ⟨x3, e3⟩ : ∃ x, (bn U).getD 3 0 = x := ⟨_, rfl⟩
  obtain ⟨x4, e4⟩ : ∃ x, (bn U).getD 4 0 = x := ⟨_, rfl⟩
  rw [e2] at l2
  rw [e3] at l3
  rw [e4] at l4
  have E2 := hide e2
  have E3 := hide e3
  have E4 := hide e4
  have EG := hide eG
  have HP := hide (fun w' => prefix_any U ⟨#[67, 80]⟩ w')
  have hp' : Lib.hasPrefix U.data.toList (⟨#[67, 80]⟩ : ByteArray).data.toList = true := hp
  rw [hp'] at HP
  have ho := or_i64 x3 x4 l3 l4
  have hnn : x3 * 256 + x4 = n := by rw [← en, Blk.lenOf, e3, e4]
  rw [hnn] at ho
  have hv1 : (x3 : Int) * 256 + (x4 : Int) = (n : Int) := by omega
  clear e2 e3 e4 eG hp hp' en hnn
  have i1 : ¬ (1007 : Int) < (n : Int) := by omega
  have i2 : (1152921504606846976 : Int) < (G : Int) := by omega
  go_enter Tryd.func33, Tryd.ntmps33
  go_wp2_with (first
    | (go_at_call 34; refine (read_step' w U _ (by rw [hU])).mono ?_; rintro e w1 ⟨r, rfl, h2⟩)
    | (go_at_call 43; refine (byte_step (k := 2) (j := 3) h2 (by omega) rfl (unhide E2) (by omega)).mono ?_; rintro e w2 ⟨rfl, h3⟩; clear h2)
    | (go_at_call 43; refine (byte_step (k := 3) (j := 4) h3 (by omega) rfl (unhide E3) (by omega)).mono ?_; rintro e w3 ⟨rfl, h4⟩; clear h3)
    | (go_at_call 43; refine (byte_step (k := 4) (j := 5) h4 (by omega) rfl (unhide E4) (by omega)).mono ?_; rintro e w4 ⟨rfl, h5⟩; clear h4)
    | (go_at_call 35; refine (fixed_step' (k := 5) h5 (by omega) (unhide EG) (by omega)).mono ?_; rintro e w5 ⟨rfl, h6⟩; clear h5; obtain ⟨c0, c1, c2, cf⟩ := h6.cells)
    | (go_at_call 37; refine (unhide HP _).mono ?_; rintro e w6 ⟨rfl, hw⟩; have hw := hw.symm; subst hw))
  refine bodyPost_ret (v := .tuple #[.agg #[.int .i64 0, .int .i64 0, .string ⟨#[]⟩], .int .i64 21]) ?_ rfl ⟨rfl, ?_⟩
  · rw [results_cell_tmp rfl]
    go_simp
  · exact below_set (below_set (below_set h6.1 (Nat.le_refl _)) (Nat.le_refl _)) (Nat.le_refl _)

set_option maxRecDepth 10000 in
set_option maxHeartbeats 1000000 in
theorem blockOf_zeros (U : ByteArray) (w : World) (x2 n G : Nat) (hU : U.size = 1020) (e2 : (bn U).getD 2 0 = x2) (en : Blk.lenOf (bn U) = n) (eG : Pk.fixN (((bn U).drop 5).take 8) = G) (hp : Lib.hasPrefix U.data.toList [67, 80] = true) (hn : n ≤ 1007) (hg : G ≤ 1152921504606846976) (hz : ¬ Lib.trimB (U.extract (13 + n) 1020).data.toList 0 = []) :
    Calls Tryd.prog 33 #[.string U] w fun e w' => e = .returned (.tuple #[.agg #[.int .i64 0, .int .i64 0, .string ⟨#[]⟩], .int .i64 21]) ∧ Below w.heap.size w w' := by
  have l2 := getD_lt (bn_lt U) 2
  have l3 := getD_lt (bn_lt U) 3
  have l4 := getD_lt (bn_lt U) 4
  obtain ⟨x3, e3⟩ : ∃ x, (bn U).getD 3 0 = x := ⟨_, rfl⟩
  obtain ⟨x4, e4⟩ : ∃ x, (bn U).getD 4 0 = x := ⟨_, rfl⟩
  rw [e2] at l2
  rw [e3] at l3
  rw [e4] at l4
  have E2 := hide e2
  have E3 := hide e3
  have E4 := hide e4
  have EG := hide eG
  have HP := hide (fun w' => prefix_any U ⟨#[67, 80]⟩ w')
  have hp' : Lib.hasPrefix U.data.toList (⟨#[67, 80]⟩ : ByteArray).data.toList = true := hp
  rw [hp'] at HP
  have ho := or_i64 x3 x4 l3 l4
  have hnn : x3 * 256 + x4 = n := by rw [← en, Blk.lenOf, e3, e4]
  rw [hnn] at ho
  have hv1 : (x3 : Int) * 256 + (x4 : Int) = (n : Int) := by omega
  clear e2 e3 e4 eG hp hp' en hnn
  have i1 : ¬ (1007 : Int) < (n : Int) := by omega
  have i2 : ¬ (1152921504606846976 : Int) < (G : Int) := by omega
  have i3 : (13 : Int) + (n : Int) ≤ 1020 := by omega
  obtain ⟨Z, hZ⟩ : ∃ Z : ByteArray, (⟨(Lib.trimB (U.extract (13 + n) 1020).data.toList 0).toArray⟩ : ByteArray) = Z := ⟨_, rfl⟩
  have hfull : Z.toList.isEmpty = false := by
    subst hZ
    rw [ByteArray.toList_eq, List.isEmpty_eq_false_iff]
    exact hz
  have HZ := hide hZ
  clear hZ hz
  go_enter Tryd.func33, Tryd.ntmps33
  go_wp2_with (first
    | (go_at_call 34; refine (read_step' w U _ (by rw [hU])).mono ?_; rintro e w1 ⟨r, rfl, h2⟩)
    | (go_at_call 43; refine (byte_step (k := 2) (j := 3) h2 (by omega) rfl (unhide E2) (by omega)).mono ?_; rintro e w2 ⟨rfl, h3⟩; clear h2)
    | (go_at_call 43; refine (byte_step (k := 3) (j := 4) h3 (by omega) rfl (unhide E3) (by omega)).mono ?_; rintro e w3 ⟨rfl, h4⟩; clear h3)
    | (go_at_call 43; refine (byte_step (k := 4) (j := 5) h4 (by omega) rfl (unhide E4) (by omega)).mono ?_; rintro e w4 ⟨rfl, h5⟩; clear h4)
    | (go_at_call 35; refine (fixed_step' (k := 5) h5 (by omega) (unhide EG) (by omega)).mono ?_; rintro e w5 ⟨rfl, h6⟩; clear h5; obtain ⟨c0, c1, c2, cf⟩ := h6.cells)
    | (go_at_call 37; refine (unhide HP _).mono ?_; rintro e w6 ⟨rfl, hw⟩; have hw := hw.symm; subst hw)
    | (go_at_call 44; refine (trim_step h6 (U.extract (13 + n) 1020) (by rw [ByteArray.size_extract]; omega)).mono ?_; rw [unhide HZ]; rintro e w7 ⟨rfl, h7⟩; clear h6 c0 c1 c2 cf; obtain ⟨c0, c1, c2, cf⟩ := h7.cells))
  refine bodyPost_ret (v := .tuple #[.agg #[.int .i64 0, .int .i64 0, .string ⟨#[]⟩], .int .i64 21]) ?_ rfl ⟨rfl, ?_⟩
  · rw [results_cell_tmp rfl]
    go_simp
  · exact below_set (below_set (below_set h7.1 (Nat.le_refl _)) (Nat.le_refl _)) (Nat.le_refl _)

set_option maxRecDepth 10000 in
set_option maxHeartbeats 1000000 in
theorem blockOf_ok (U : ByteArray) (w : World) (x2 n G : Nat) (hU : U.size = 1020) (e2 : (bn U).getD 2 0 = x2) (en : Blk.lenOf (bn U) = n) (eG : Pk.fixN (((bn U).drop 5).take 8) = G) (hp : Lib.hasPrefix U.data.toList [67, 80] = true) (hn : n ≤ 1007) (hg : G ≤ 1152921504606846976) (hz : Lib.trimB (U.extract (13 + n) 1020).data.toList 0 = []) :
    Calls Tryd.prog 33 #[.string U] w fun e w' => e = .returned (.tuple #[.agg #[.int .i64 (x2 : Int), .int .i64 (G : Int), .string (U.extract 13 (13 + n))], .int .i64 0]) ∧ Below w.heap.size w w' := by
  have l2 := getD_lt (bn_lt U) 2
  have l3 := getD_lt (bn_lt U) 3
  have l4 := getD_lt (bn_lt U) 4
  obtain ⟨x3, e3⟩ : ∃ x, (bn U).getD 3 0 = x := ⟨_, rfl⟩
  obtain ⟨x4, e4⟩ : ∃ x, (bn U).getD 4 0 = x := ⟨_, rfl⟩
  rw [e2] at l2
  rw [e3] at l3
  rw [e4] at l4
  have E2 := hide e2
  have E3 := hide e3
  have E4 := hide e4
  have EG := hide eG
  have HP := hide (fun w' => prefix_any U ⟨#[67, 80]⟩ w')
  have hp' : Lib.hasPrefix U.data.toList (⟨#[67, 80]⟩ : ByteArray).data.toList = true := hp
  rw [hp'] at HP
  have ho := or_i64 x3 x4 l3 l4
  have hnn : x3 * 256 + x4 = n := by rw [← en, Blk.lenOf, e3, e4]
  rw [hnn] at ho
  have hv1 : (x3 : Int) * 256 + (x4 : Int) = (n : Int) := by omega
  clear e2 e3 e4 eG hp hp' en hnn
  have i1 : ¬ (1007 : Int) < (n : Int) := by omega
  have i2 : ¬ (1152921504606846976 : Int) < (G : Int) := by omega
  have i3 : (13 : Int) + (n : Int) ≤ 1020 := by omega
  have i4 : IntKind.i64.wrap (G : Int) = (G : Int) := by rw [IntKind.wrap_i64]; omega
  have HZ : Hid ((⟨(Lib.trimB (U.extract (13 + n) 1020).data.toList 0).toArray⟩ : ByteArray) = ⟨#[]⟩) := by
    show _ = _
    rw [hz]
  clear hz
  go_enter Tryd.func33, Tryd.ntmps33
  go_wp2_with (first
    | (go_at_call 34; refine (read_step' w U _ (by rw [hU])).mono ?_; rintro e w1 ⟨r, rfl, h2⟩)
    | (go_at_call 43; refine (byte_step (k := 2) (j := 3) h2 (by omega) rfl (unhide E2) (by omega)).mono ?_; rintro e w2 ⟨rfl, h3⟩; clear h2)
    | (go_at_call 43; refine (byte_step (k := 3) (j := 4) h3 (by omega) rfl (unhide E3) (by omega)).mono ?_; rintro e w3 ⟨rfl, h4⟩; clear h3)
    | (go_at_call 43; refine (byte_step (k := 4) (j := 5) h4 (by omega) rfl (unhide E4) (by omega)).mono ?_; rintro e w4 ⟨rfl, h5⟩; clear h4)
    | (go_at_call 35; refine (fixed_step' (k := 5) h5 (by omega) (unhide EG) (by omega)).mono ?_; rintro e w5 ⟨rfl, h6⟩; clear h5; obtain ⟨c0, c1, c2, cf⟩ := h6.cells)
    | (go_at_call 37; refine (unhide HP _).mono ?_; rintro e w6 ⟨rfl, hw⟩; have hw := hw.symm; subst hw)
    | (go_at_call 44; refine (trim_step h6 (U.extract (13 + n) 1020) (by rw [ByteArray.size_extract]; omega)).mono ?_; rw [unhide HZ]; rintro e w7 ⟨rfl, h7⟩; clear h6 c0 c1 c2 cf; obtain ⟨c0, c1, c2, cf⟩ := h7.cells)
    | (go_at_call 45; refine (clone_step h7 (U.extract 13 (13 + n)) (by rw [ByteArray.size_extract]; omega)).mono ?_; rintro e w8 ⟨rfl, h8⟩; clear h7 c0 c1 c2 cf; obtain ⟨c0, c1, c2, cf⟩ := h8.cells))
  refine bodyPost_ret (v := .tuple #[.agg #[.int .i64 (x2 : Int), .int .i64 (G : Int), .string (U.extract 13 (13 + n))], .int .i64 0]) ?_ rfl ⟨rfl, ?_⟩
  · rw [results_cell_tmp rfl]
    go_simp
  · exact below_set (below_set (below_set h8.1 (Nat.le_refl _)) (Nat.le_refl _)) (Nat.le_refl _)

theorem prefix_iff (U : ByteArray) : Lib.hasPrefix U.data.toList [67, 80] = true ↔ (bn U).take 2 = [67, 80] := by
  unfold Lib.hasPrefix bn
  rw [List.isPrefixOf_iff_prefix, List.prefix_iff_eq_take, ← List.map_take]
  constructor
  · intro h
    have h' : U.data.toList.take 2 = [67, 80] := h.symm
    rw [h']
    rfl
  · intro h
    have h' : (U.data.toList.take 2).map UInt8.toNat = ([67, 80] : List UInt8).map UInt8.toNat := h
    exact ((List.map_inj_right (f := UInt8.toNat) (fun a b e => UInt8.toNat_inj.1 e)).1 h').symm
theorem zeros_iff (U : ByteArray) (m : Nat) (hU : U.size = 1020) : Lib.trimB (U.extract m 1020).data.toList 0 = [] ↔ ∀ x ∈ (bn U).drop m, x = 0 := by
  rw [trim_nil]
  have e : (bn U).drop m = (U.extract m 1020).data.toList.map UInt8.toNat := by
    have := bn_from U m
    rw [hU] at this
    rw [← this]
    rfl
  rw [e]
  constructor
  · intro h x hx
    obtain ⟨u, hu, rfl⟩ := List.mem_map.1 hx
    rw [h u hu]
    rfl
  · intro h x hx
    have := h _ (List.mem_map.2 ⟨x, hx, rfl⟩)
    exact UInt8.toNat_inj.1 this

theorem blockOf_any (U : ByteArray) (w : World) (hU : U.size = 1020) :
    Calls Tryd.prog 33 #[.string U] w fun e w' => e = .returned (opened (blockR U)) ∧ Below w.heap.size w w' := by
  unfold blockR
  by_cases hp : (bn U).take 2 = [67, 80]
  · have hp' := (prefix_iff U).2 hp
    by_cases hn : Blk.lenOf (bn U) ≤ 1007
    · by_cases hg : Blk.genOf (bn U) ≤ 1152921504606846976
      · by_cases hz : ∀ x ∈ (bn U).drop (13 + Blk.lenOf (bn U)), x = 0
        · rw [if_pos ⟨hp, hn, hg, hz⟩]
          exact blockOf_ok U w _ _ _ hU rfl rfl rfl hp' hn hg ((zeros_iff U _ hU).2 hz)
        · rw [if_neg (fun h => hz h.2.2.2)]
          exact blockOf_zeros U w _ _ _ hU rfl rfl rfl hp' hn hg (fun h => hz ((zeros_iff U _ hU).1 h))
      · rw [if_neg (fun h => hg h.2.2.1)]
        exact blockOf_gen U w _ _ _ hU rfl rfl rfl hp' hn (Nat.lt_of_not_le hg)
    · rw [if_neg (fun h => hn h.2.1)]
      exact blockOf_long U w _ _ _ hU rfl rfl rfl hp' (Nat.lt_of_not_le hn)
  · rw [if_neg (fun h => hp h.1)]
    refine blockOf_prefix U w _ _ _ hU rfl rfl rfl ?_
    cases h : Lib.hasPrefix U.data.toList [67, 80] with
    | false => rfl
    | true => exact absurd ((prefix_iff U).1 h) hp
end Go.Proofs.YtdkgifjmahkiaaaDoor.L4
