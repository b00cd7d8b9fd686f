/- Texts that the proof needs, one behind the other. -/
import Derived.Test.YtdelobaiicoogaaGreatDoorMac
import Derived.Laws.ResultCell
import Derived.Test.YtdelobaiicoogaaGreatDoorMao
/- What blockOf does: the block that the bytes ahead of the sum tell, or the error. -/
namespace Go.Proofs.YtdelobaiicoogaaGreatDoor.L4
open Go.ChangeShapes Go.WideShapes Go.ChangeAt Go.RowKit

theorem below_set {W w : World} {g j : Nat} {u : Value} (h : Below W.heap.size W w) (hg : W.heap.size ≤ g) : Below W.heap.size W (w.setCell ⟨g, j, none⟩ u) :=
  h.grown (grown_set w g j u) h.size (fun k hk => by cases hk; exact hg)

set_option maxRecDepth 10000 in
set_option maxHeartbeats 1000000 in
theorem blockOf_prefix (U : ByteArray) (w : World) (x2 n G : Nat) (hU : U.size = 1020) (e2 : (bn U).getD 2 0 = x2) (en : Blk.lenOf (bn U) = n) (eG : Pk.fixN (((bn U).drop 5).take 8) = G) (hp : Lib.hasPrefix U.data.toList [67, 80] = false) :
    Calls Tryz.prog 176 #[.string U] w fun e w' => e = .returned (.tuple #[.agg #[.int .i64 0, .int .i64 0, .string ⟨#[]⟩], .int .i64 21]) ∧ Below w.heap.size w w' := by
  have l2 := getD_lt (bn_lt U) 2
  have l3 := getD_lt (bn_lt U) 3
  have l4 := getD_lt (bn_lt U) 4
  obtain ⟨x3, e3⟩ : ∃ x, (bn U).getD 3 0 = x := ⟨_, rfl⟩
  obtain ⟨x4, e4⟩ : ∃ x, (bn U).getD 4 0 = x := ⟨_, rfl⟩
  rw [e2] at l2
  rw [e3] at l3
  rw [e4] at l4
  have E2 := hide e2
  have E3 := hide e3
  have E4 := hide e4
  have EG := hide eG
  have HP := hide (fun w' => prefix_any U ⟨#[67, 80]⟩ w')
  have hp' : Lib.hasPrefix U.data.toList (⟨#[67, 80]⟩ : ByteArray).data.toList = false := hp
  rw [hp'] at HP
  have ho := or_i64 x3 x4 l3 l4
  have hnn : x3 * 256 + x4 = n := by rw [← en, Blk.lenOf, e3, e4]
  rw [hnn] at ho
  have hv1 : (x3 : Int) * 256 + (x4 : Int) = (n : Int) := by omega
  clear e2 e3 e4 eG hp hp' en hnn
  go_enter Tryz.func176, Tryz.ntmps176
  go_wp2_with (first
    | (go_at_call 178; refine (read_step' w U _ (by rw [hU])).mono ?_; rintro e w1 ⟨r, rfl, h2⟩)
    | (go_at_call 204; refine (byte_step (k := 2) (j := 3) h2 (by omega) rfl (unhide E2) (by omega)).mono ?_; rintro e w2 ⟨rfl, h3⟩; clear h2)
    | (go_at_call 204; refine (byte_step (k := 3) (j := 4) h3 (by omega) rfl (unhide E3) (by omega)).mono ?_; rintro e w3 ⟨rfl, h4⟩; clear h3)
    | (go_at_call 204; refine (byte_step (k := 4) (j := 5) h4 (by omega) rfl (unhide E4) (by omega)).mono ?_; rintro e w4 ⟨rfl, h5⟩; clear h4)
    | (go_at_call 205; refine (fixed_step' (k := 5) h5 (by omega) (unhide EG) (by omega)).mono ?_; rintro e w5 ⟨rfl, h6⟩; clear h5; obtain ⟨c0, c1, c2, cf⟩ := h6.cells)
    | (go_at_call 133; refine (unhide HP _).mono ?_; rintro e w6 ⟨rfl, hw⟩; have hw := hw.symm; subst hw))
  refine bodyPost_ret (v := .tuple #[.agg #[.int .i64 0, .int .i64 0, .string ⟨#[]⟩], .int .i64 21]) ?_ rfl ⟨rfl, ?_⟩
  · rw [results_cell_tmp rfl]
    go_simp
  · exact below_set (below_set (below_set h6.1 (Nat.le_refl _)) (Nat.le_refl _)) (Nat.le_refl _)

set_option maxRecDepth 10000 in
set_option maxHeartbeats 1000000 in
theorem blockOf_long (U : ByteArray) (w : World) (x2 n G : Nat) (hU : U.size = 1020) (e2 : (bn U).getD 2 0 = x2) (en : Blk.lenOf (bn U) = n) (eG : Pk.fixN (((bn U).drop 5).take 8) = G) (hp : Lib.hasPrefix U.data.toList [67, 80] = true) (hn : 1007 < n) :
    Calls Tryz.prog 176 #[.string U] w fun e w' => e = .returned (.tuple #[.agg #[.int .i64 0, .int .i64 0, .string ⟨#[]⟩], .int .i64 21]) ∧ Below w.heap.size w w' := by
  have l2 := getD_lt (bn_lt U) 2
  have l3 := getD_lt (bn_lt U) 3
  have l4 := getD_lt (bn_lt U) 4
  obtain ⟨x3, e3⟩ : ∃ x, (bn U).getD 3 0 = x := ⟨_, rfl⟩
  obtain ⟨x4, e4⟩ : ∃ x, (bn U).getD 4 0 = x := ⟨_, rfl⟩
  rw [e2] at l2
  rw [e3] at l3
  rw [e4] at l4
  have E2 := hide e2
  have E3 := hide e3
  have E4 := hide e4
  have EG := hide eG
  have HP := hide (fun w' => prefix_any U ⟨#[67, 80]⟩ w')
  have hp' : Lib.hasPrefix U.data.toList (⟨#[67, 80]⟩ : ByteArray).data.toList = true := hp
  rw [hp'] at HP
  have ho := or_i64 x3 x4 l3 l4
  have hnn : x3 * 256 + x4 = n := by rw [← en, Blk.lenOf, e3, e4]
  rw [hnn] at ho
  have hv1 : (x3 : Int) * 256 + (x4 : Int) = (n : Int) := by omega
  clear e2 e3 e4 eG hp hp' en hnn
  have i1 : (1007 : Int) < (n : Int) := by omega
  go_enter Tryz.func176, Tryz.ntmps176
  go_wp2_with (first
    | (go_at_call 178; refine (read_step' w U _ (by rw [hU])).mono ?_; rintro e w1 ⟨r, rfl, h2⟩)
    | (go_at_call 204; refine (byte_step (k := 2) (j := 3) h2 (by omega) rfl (unhide E2) (by omega)).mono ?_; rintro e w2 ⟨rfl, h3⟩; clear h2)
    | (go_at_call 204; refine (byte_step (k := 3) (j := 4) h3 (by omega) rfl (unhide E3) (by omega)).mono ?_; rintro e w3 ⟨rfl, h4⟩; clear h3)
    | (go_at_call 204; refine (byte_step (k := 4) (j := 5) h4 (by omega) rfl (unhide E4) (by omega)).mono ?_; rintro e w4 ⟨rfl, h5⟩; clear h4)
    | (go_at_call 205; refine (fixed_step' (k := 5) h5 (by omega) (unhide EG) (by omega)).mono ?_; rintro e w5 ⟨rfl, h6⟩; clear h5; obtain ⟨c0, c1, c2, cf⟩ := h6.cells)
    | (go_at_call 133; refine (unhide HP _).mono ?_; rintro e w6 ⟨rfl, hw⟩; have hw := hw.symm; subst hw))
  refine bodyPost_ret (v := .tuple #[.agg #[.int .i64 0, .int .i64 0, .string ⟨#[]⟩], .int .i64 21]) ?_ rfl ⟨rfl, ?_⟩
  · rw [results_cell_tmp rfl]
    go_simp
  · exact below_set (below_set (below_set h6.1 (Nat.le_refl _)) (Nat.le_refl _)) (Nat.le_refl _)

set_option maxRecDepth 10000 in
set_option maxHeartbeats 1000000 in
theorem blockOf_gen (U : ByteArray) (w : World) (x2 n G : Nat) (hU : U.size = 1020) (e2 : (bn U).getD 2 0 = x2) (en : Blk.lenOf (bn U) = n) (eG : Pk.fixN (((bn U).drop 5).take 8) = G) (hp : Lib.hasPrefix U.data.toList [67, 80] = true) (hn : n ≤ 1007) (hg : 1152921504606846976 < G) :
    Calls Tryz.prog 176 #[.string U] w fun e w' => e = .returned (.tuple #[.agg #[.int .i64 0, .int .i64 0, .string ⟨#[]⟩], .int .i64 21]) ∧ Below w.heap.size w w' := by
  have l2 := getD_lt (bn_lt U) 2
  have l3 := getD_lt (bn_lt U) 3
  have l4 := getD_lt (bn_lt U) 4
  obtain ⟨x3, e3⟩ : ∃ x, (bn U).getD 3 0 = x := ⟨_, rfl⟩
  obtain ⟨x4, e4⟩ : ∃ x, (bn U).getD 4 0 = x := ⟨_, rfl⟩
  rw [e2] at l2
  rw [e3] at l3
  rw [e4] at l4
  have E2 := hide e2
  have E3 := hide e3
  have E4 := hide e4
  have EG := hide eG
  have HP := hide (fun w' => prefix_any U ⟨#[67, 80]⟩ w')
  have hp' : Lib.hasPrefix U.data.toList (⟨#[67, 80]⟩ : ByteArray).data.toList = true := hp
  rw [hp'] at HP
  have ho := or_i64 x3 x4 l3 l4
  have hnn : x3 * 256 + x4 = n := by rw [← en, Blk.lenOf, e3, e4]
  rw [hnn] at ho
  have hv1 : (x3 : Int) * 256 + (x4 : Int) = (n : Int) := by omega
  clear e2 e3 e4 eG hp hp' en hnn
  have i1 : ¬ (1007 : Int) < (n : Int) := by omega
  have i2 : (1152921504606846976 : Int) < (G : Int) := by omega
  go_enter Tryz.func176, Tryz.ntmps176
  go_wp2_with (first
    | (go_at_call 178; refine (read_step' w U _ (by rw [hU])).mono ?_; rintro e w1 ⟨r, rfl, h2⟩)
    | (go_at_call 204; refine (byte_step (k := 2) (j := 3) h2 (by omega) rfl (unhide E2) (by omega)).mono ?_; rintro e w2 ⟨rfl, h3⟩; clear h2)
    | (go_at_call 204; refine (byte_step (k := 3) (j := 4) h3 (by omega) rfl (unhide E3) (by omega)).mono ?_; rintro e w3 ⟨rfl, h4⟩; clear h3)
    | (go_at_call 204; refine (byte_step (k := 4) (j := 5) h4 (by omega) rfl (unhide E4) (by omega)).mono ?_; rintro e w4 ⟨rfl, h5⟩; clear h4)
    | (go_at_call 205; refine (fixed_step' (k := 5) h5 (by omega) (unhide EG) (by omega)).mono ?_; rintro e w5 ⟨rfl, h6⟩; clear h5; obtain ⟨c0, c1, c2, cf⟩ := h6.cells)
    | (go_at_call 133; refine (unhide HP _).mono ?_; rintro e w6 ⟨rfl, hw⟩; have hw := hw.symm; subst hw))
  refine bodyPost_ret (v := .tuple #[.agg #[.int .i64 0, .int .i64 0, .string ⟨#[]⟩], .int .i64 21]) ?_ rfl ⟨rfl, ?_⟩
  · rw [results_cell_tmp rfl]
    go_simp
  · exact below_set (below_set (below_set h6.1 (Nat.le_refl _)) (Nat.le_refl _)) (Nat.le_refl _)

set_option maxRecDepth 10000 in
set_option maxHeartbeats 1000000 in
theorem blockOf_zeros (U : ByteArray) (w : World) (x2 n G : Nat) (hU : U.size = 1020) (e2 : (bn U).getD 2 0 = x2) (en : Blk.lenOf (bn U) = n) (eG : Pk.fixN (((bn U).drop 5).take 8) = G) (hp : Lib.hasPrefix U.data.toList [67, 80] = true) (hn : n ≤ 1007) (hg : G ≤ 1152921504606846976) (hz : ¬ Lib.trimB (U.extract (13 + n) 1020).data.toList 0 = []) :
    Calls Tryz.prog 176 #[.string U] w fun e w' => e = .returned (.tuple #[.agg #[.int .i64 0, .int .i64 0, .string ⟨#[]⟩], .int .i64 21]) ∧ Below w.heap.size w w' := by
  have l2 := getD_lt (bn_lt U) 2
  have l3 := getD_lt (bn_lt U) 3
  have l4 := getD_lt (bn_lt U) 4
  obtain ⟨x3, e3⟩ : ∃ x, (bn U).getD 3 0 = x := ⟨_, rfl⟩
  obtain ⟨x4, e4⟩ : ∃ x, (bn U).getD 4 0 = x := ⟨_, rfl⟩
  rw [e2] at l2
  rw [e3] at l3
  rw [e4] at l4
  have E2 := hide e2
  have E3 := hide e3
  have E4 := hide e4
  have EG := hide eG
  have HP := hide (fun w' => prefix_any U ⟨#[67, 80]⟩ w')
  have hp' : Lib.hasPrefix U.data.toList (⟨#[67, 80]⟩ : ByteArray).data.toList = true := hp
  rw [hp'] at HP
  have ho := or_i64 x3 x4 l3 l4
  have hnn : x3 * 256 + x4 = n := by rw [← en, Blk.lenOf, e3, e4]
  rw [hnn] at ho
  have hv1 : (x3 : Int) * 256 + (x4 : Int) = (n : Int) := by omega
  clear e2 e3 e4 eG hp hp' en hnn
  have i1 : ¬ (1007 : Int) < (n : Int) := by omega
  have i2 : ¬ (1152921504606846976 : Int) < (G : Int) := by omega
  have i3 : (13 : Int) + (n : Int) ≤ 1020 := by omega
  obtain ⟨Z, hZ⟩ : ∃ Z : ByteArray, (⟨(Lib.trimB (U.extract (13 + n) 1020).data.toList 0).toArray⟩ : ByteArray) = Z := ⟨_, rfl⟩
  have hfull : Z.toList.isEmpty = false := by
    subst hZ
    rw [ByteArray.toList_eq, List.isEmpty_eq_false_iff]
    exact hz
  have HZ := hide hZ
  clear hZ hz
  go_enter Tryz.func176, Tryz.ntmps176
  go_wp2_with (first
    | (go_at_call 178; refine (read_step' w U _ (by rw [hU])).mono ?_; rintro e w1 ⟨r, rfl, h2⟩)
    | (go_at_call 204; refine (byte_step (k := 2) (j := 3) h2 (by omega) rfl (unhide E2) (by omega)).mono ?_; rintro e w2 ⟨rfl, h3⟩; clear h2)
    | (go_at_call 204; refine (byte_step (k := 3) (j := 4) h3 (by omega) rfl (unhide E3) (by omega)).mono ?_; rintro e w3 ⟨rfl, h4⟩; clear h3)
    | (go_at_call 204; refine (byte_step (k := 4) (j := 5) h4 (by omega) rfl (unhide E4) (by omega)).mono ?_; rintro e w4 ⟨rfl, h5⟩; clear h4)
    | (go_at_call 205; refine (fixed_step' (k := 5) h5 (by omega) (unhide EG) (by omega)).mono ?_; rintro e w5 ⟨rfl, h6⟩; clear h5; obtain ⟨c0, c1, c2, cf⟩ := h6.cells)
    | (go_at_call 133; refine (unhide HP _).mono ?_; rintro e w6 ⟨rfl, hw⟩; have hw := hw.symm; subst hw)
    | (go_at_call 206; refine (trim_step h6 (U.extract (13 + n) 1020) (by rw [ByteArray.size_extract]; omega)).mono ?_; rw [unhide HZ]; rintro e w7 ⟨rfl, h7⟩; clear h6 c0 c1 c2 cf; obtain ⟨c0, c1, c2, cf⟩ := h7.cells))
  refine bodyPost_ret (v := .tuple #[.agg #[.int .i64 0, .int .i64 0, .string ⟨#[]⟩], .int .i64 21]) ?_ rfl ⟨rfl, ?_⟩
  · rw [results_cell_tmp rfl]
    go_simp
  · exact below_set (below_set (below_set h7.1 (Nat.le_refl _)) (Nat.le_refl _)) (Nat.le_refl _)

set_option maxRecDepth 10000 in
set_option maxHeartbeats 1000000 in
theorem blockOf_ok (U : ByteArray) (w : World) (x2 n G : Nat) (hU : U.size = 1020) (e2 : (bn U).getD 2 0 = x2) (en : Blk.lenOf (bn U) = n) (eG : Pk.fixN (((bn U).drop 5).take 8) = G) (hp : Lib.hasPrefix U.data.toList [67, 80] = true) (hn : n ≤ 1007) (hg : G ≤ 1152921504606846976) (hz : Lib.trimB (U.extract (13 + n) 1020).data.toList 0 = []) :
    Calls Tryz.prog 176 #[.string U] w fun e w' => e = .returned (.tuple #[.agg #[.int .i64 (x2 : Int), .int .i64 (G : Int), .string (U.extract 13 (13 + n))], .int .i64 0]) ∧ Below w.heap.size w w' := by
  have l2 := getD_lt (bn_lt U) 2
  have l3 := getD_lt (bn_lt U) 3
  have l4 := getD_lt (bn_lt U) 4
  obtain ⟨x3, e3⟩ : ∃ x, (bn U).getD 3 0 = x := ⟨_, rfl⟩
  obtain ⟨x4, e4⟩ : ∃ x, (bn U).getD 4 0 = x := ⟨_, rfl⟩
  rw [e2] at l2
  rw [e3] at l3
  rw [e4] at l4
  have E2 := hide e2
  have E3 := hide e3
  have E4 := hide e4
  have EG := hide eG
  have HP := hide (fun w' => prefix_any U ⟨#[67, 80]⟩ w')
  have hp' : Lib.hasPrefix U.data.toList (⟨#[67, 80]⟩ : ByteArray).data.toList = true := hp
  rw [hp'] at HP
  have ho := or_i64 x3 x4 l3 l4
  have hnn : x3 * 256 + x4 = n := by rw [← en, Blk.lenOf, e3, e4]
  rw [hnn] at ho
  have hv1 : (x3 : Int) * 256 + (x4 : Int) = (n : Int) := by omega
  clear e2 e3 e4 eG hp hp' en hnn
  have i1 : ¬ (1007 : Int) < (n : Int) := by omega
  have i2 : ¬ (1152921504606846976 : Int) < (G : Int) := by omega
  have i3 : (13 : Int) + (n : Int) ≤ 1020 := by omega
  have i4 : IntKind.i64.wrap (G : Int) = (G : Int) := by rw [IntKind.wrap_i64]; omega
  have HZ : Hid ((⟨(Lib.trimB (U.extract (13 + n) 1020).data.toList 0).toArray⟩ : ByteArray) = ⟨#[]⟩) := by
    show _ = _
    rw [hz]
  clear hz
  go_enter Tryz.func176, Tryz.ntmps176
  go_wp2_with (first
    | (go_at_call 178; refine (read_step' w U _ (by rw [hU])).mono ?_; rintro e w1 ⟨r, rfl, h2⟩)
    | (go_at_call 204; refine (byte_step (k := 2) (j := 3) h2 (by omega) rfl (unhide E2) (by omega)).mono ?_; rintro e w2 ⟨rfl, h3⟩; clear h2)
    | (go_at_call 204; refine (byte_step (k := 3) (j := 4) h3 (by omega) rfl (unhide E3) (by omega)).mono ?_; rintro e w3 ⟨rfl, h4⟩; clear h3)
    | (go_at_call 204; refine (byte_step (k := 4) (j := 5) h4 (by omega) rfl (unhide E4) (by omega)).mono ?_; rintro e w4 ⟨rfl, h5⟩; clear h4)
    | (go_at_call 205; refine (fixed_step' (k := 5) h5 (by omega) (unhide EG) (by omega)).mono ?_; rintro e w5 ⟨rfl, h6⟩; clear h5; obtain ⟨c0, c1, c2, cf⟩ := h6.cells)
    | (go_at_call 133; refine (unhide HP _).mono ?_; rintro e w6 ⟨rfl, hw⟩; have hw := hw.symm; subst hw)
    | (go_at_call 206; refine (trim_step h6 (U.extract (13 + n) 1020) (by rw [ByteArray.size_extract]; omega)).mono ?_; rw [unhide HZ]; rintro e w7 ⟨rfl, h7⟩; clear h6 c0 c1 c2 cf; obtain ⟨c0, c1, c2, cf⟩ := h7.cells)
    | (go_at_call 106; refine (clone_step h7 (U.extract 13 (13 + n)) (by rw [ByteArray.size_extract]; omega)).mono ?_; rintro e w8 ⟨rfl, h8⟩; clear h7 c0 c1 c2 cf; obtain ⟨c0, c1, c2, cf⟩ := h8.cells))
  refine bodyPost_ret (v := .tuple #[.agg #[.int .i64 (x2 : Int), .int .i64 (G : Int), .string (U.extract 13 (13 + n))], .int .i64 0]) ?_ rfl ⟨rfl, ?_⟩
  · rw [results_cell_tmp rfl]
    go_simp
  · exact below_set (below_set (below_set h8.1 (Nat.le_refl _)) (Nat.le_refl _)) (Nat.le_refl _)

theorem prefix_iff (U : ByteArray) : Lib.hasPrefix U.data.toList [67, 80] = true ↔ (bn U).take 2 = [67, 80] := by
  unfold Lib.hasPrefix bn
  rw [List.isPrefixOf_iff_prefix, List.prefix_iff_eq_take, ← List.map_take]
  constructor
  · intro h
    have h' : U.data.toList.take 2 = [67, 80] := h.symm
    rw [h']
    rfl
  · intro h
    have h' : (U.data.toList.take 2).map UInt8.toNat = ([67, 80] : List UInt8).map UInt8.toNat := h
    exact ((List.map_inj_right (f := UInt8.toNat) (fun a b e => UInt8.toNat_inj.1 e)).1 h').symm
theorem zeros_iff (U : ByteArray) (m : Nat) (hU : U.size = 1020) : Lib.trimB (U.extract m 1020).data.toList 0 = [] ↔ ∀ x ∈ (bn U).drop m, x = 0 := by
  rw [trim_nil]
  have e : (bn U).drop m = (U.extract m 1020).data.toList.map UInt8.toNat := by
    have := bn_from U m
    rw [hU] at this
    rw [← this]
    rfl
  rw [e]
  constructor
  · intro h x hx
    obtain ⟨u, hu, rfl⟩ := List.mem_map.1 hx
    rw [h u hu]
    rfl
  · intro h x hx
    have := h _ (List.mem_map.2 ⟨x, hx, rfl⟩)
    exact UInt8.toNat_inj.1 this

theorem blockOf_any (U : ByteArray) (w : World) (hU : U.size = 1020) :
    Calls Tryz.prog 176 #[.string U] w fun e w' => e = .returned (opened (blockR U)) ∧ Below w.heap.size w w' := by
  unfold blockR
  by_cases hp : (bn U).take 2 = [67, 80]
  · have hp' := (prefix_iff U).2 hp
    by_cases hn : Blk.lenOf (bn U) ≤ 1007
    · by_cases hg : Blk.genOf (bn U) ≤ 1152921504606846976
      · by_cases hz : ∀ x ∈ (bn U).drop (13 + Blk.lenOf (bn U)), x = 0
        · rw [if_pos ⟨hp, hn, hg, hz⟩]
          exact blockOf_ok U w _ _ _ hU rfl rfl rfl hp' hn hg ((zeros_iff U _ hU).2 hz)
        · rw [if_neg (fun h => hz h.2.2.2)]
          exact blockOf_zeros U w _ _ _ hU rfl rfl rfl hp' hn hg (fun h => hz ((zeros_iff U _ hU).1 h))
      · rw [if_neg (fun h => hg h.2.2.1)]
        exact blockOf_gen U w _ _ _ hU rfl rfl rfl hp' hn (Nat.lt_of_not_le hg)
    · rw [if_neg (fun h => hn h.2.1)]
      exact blockOf_long U w _ _ _ hU rfl rfl rfl hp' (Nat.lt_of_not_le hn)
  · rw [if_neg (fun h => hp h.1)]
    refine blockOf_prefix U w _ _ _ hU rfl rfl rfl ?_
    cases h : Lib.hasPrefix U.data.toList [67, 80] with
    | false => rfl
    | true => exact absurd ((prefix_iff U).1 h) hp
end Go.Proofs.YtdelobaiicoogaaGreatDoor.L4

/- What block's Open does: the document's block, or the error. -/
namespace Go.Proofs.YtdelobaiicoogaaGreatDoor.L4
open Go.ChangeShapes Go.WideShapes Go.ChangeAt Go.RowKit

/-- the result's variable is as it began -/
def Res (W w : World) : Prop := Below W.heap.size W w ∧ w.heap[W.heap.size]? = some (.cells #[.int .i64 0, .int .i64 0, .string ⟨#[]⟩] 90 (0, 0))
theorem Res.new (W : World) : Res W (W.alloc (.cells #[.int .i64 0, .int .i64 0, .string ⟨#[]⟩] 90)) := ⟨(Below.refl _ _).alloc (Nat.le_refl _) _, heap_alloc_new W _⟩
theorem Res.then {W w w' : World} (h : Res W w) (hb : Below w.heap.size w w') : Res W w' :=
  ⟨below_then h.1 hb, (hb.block _ (Array.getElem?_eq_some_iff.1 h.2).1).trans h.2⟩
theorem Res.drew {W w : World} (h : Res W w) : Res W w.drew := h.then (Below.refl _ _).drew
theorem Res.cells {W w : World} (h : Res W w) : w.cell? ⟨W.heap.size, 0, none⟩ = some (.int .i64 0) ∧ w.cell? ⟨W.heap.size, 1, none⟩ = some (.int .i64 0) ∧ w.cell? ⟨W.heap.size, 2, none⟩ = some (.string ⟨#[]⟩) ∧ ∀ i, w.frozen? ⟨W.heap.size, i, none⟩ = false := by
  have h2 := h.2
  refine ⟨?_, ?_, ?_, fun i => ?_⟩
  · simp [World.cell?, h2]
  · simp [World.cell?, h2]
  · simp [World.cell?, h2]
  · simp [World.frozen?, h2]
theorem Res.set {W w : World} (h : Res W w) (x y z : Value) : Below W.heap.size W (((w.setCell ⟨W.heap.size, 0, none⟩ x).setCell ⟨W.heap.size, 1, none⟩ y).setCell ⟨W.heap.size, 2, none⟩ z) :=
  below_set (below_set (below_set h.1 (Nat.le_refl _)) (Nat.le_refl _)) (Nat.le_refl _)

theorem str_ne {A B : ByteArray} (h : ¬ A = B) : (A.toList == B.toList) = false := beq_eq_false_iff_ne.2 (fun e => h (by
  rw [ByteArray.toList_eq, ByteArray.toList_eq] at e
  exact ByteArray.ext (Array.toList_inj.1 e)))
theorem str_eq (A : ByteArray) : (A.toList == A.toList) = true := by simp

set_option maxHeartbeats 400000 in
theorem open_size (S : ByteArray) (w : World) (h : ¬ S.size = 1024) :
    Calls Tryz.prog 145 #[.string S] w fun e w' => e = .returned (.tuple #[.agg #[.int .i64 0, .int .i64 0, .string ⟨#[]⟩], .int .i64 32]) ∧ Below w.heap.size w w' := by
  have h1 : ((S.size : Int) == 1024) = false := beq_eq_false_iff_ne.2 (by omega)
  have h2 : ((S.size : Int) != 1024) = true := bne_iff_ne.2 (by omega)
  clear h
  go_enter Tryz.func145, Tryz.ntmps145
  go_wp2
  refine bodyPost_ret (v := .tuple #[.agg #[.int .i64 0, .int .i64 0, .string ⟨#[]⟩], .int .i64 32]) ?_ rfl ⟨rfl, ?_⟩
  · rw [results_cell_tmp rfl]
    go_simp
  · exact (Below.refl _ _).alloc (Nat.le_refl _) _

set_option maxRecDepth 10000 in
set_option maxHeartbeats 1000000 in
theorem open_sum (S A B : ByteArray) (w : World) (hT : Tab w) (h : S.size = 1024) (hA : S.extract 1020 1024 = A) (hB : strOf (Blk.le4 (Crc.sum (bn (S.extract 0 1020)))) = B) (hne : ¬ A = B) :
    Calls Tryz.prog 145 #[.string S] w fun e w' => e = .returned (.tuple #[.agg #[.int .i64 0, .int .i64 0, .string ⟨#[]⟩], .int .i64 40]) ∧ Below w.heap.size w w' := by
  have hs := fun w' (h' : Tab w') => sumOf_any (S.extract 0 1020) w' h' (by rw [ByteArray.size_extract]; unfold maxLen; omega)
  rw [hB] at hs
  have HS := hide hs
  have HT := hide hT
  have hq := str_ne hne
  clear hs hT hB hne
  go_enter Tryz.func145, Tryz.ntmps145
  go_wp2_with fail
  have HX := Res.new w
  generalize w.alloc (.cells #[.int .i64 0, .int .i64 0, .string ⟨#[]⟩] 90) = w1 at *
  have HX' := hide HX
  clear HX
  go_region_held3 (fun w' => Below w.heap.size w w')
    (first | exact (unhide HX').1.drew | exact (unhide H2).1)
    (first | (go_at_call 101; refine (unhide HS _ ((unhide HT).below (unhide HX').drew.1)).mono ?_; rintro e w2 ⟨rfl, hb2⟩; have H2 := hide ((unhide HX').drew.then hb2)))
  obtain ⟨c0, c1, c2, cf⟩ := (unhide H2).cells
  go_wp2
  refine bodyPost_ret (v := .tuple #[.agg #[.int .i64 0, .int .i64 0, .string ⟨#[]⟩], .int .i64 40]) ?_ rfl ⟨rfl, ?_⟩
  · rw [results_cell_tmp rfl]
    go_simp
  · exact (unhide H2).set _ _ _

set_option maxRecDepth 10000 in
set_option maxHeartbeats 1000000 in
theorem open_fits (S A : ByteArray) (T : Int × Int × ByteArray × Nat) (w : World) (hT : Tab w) (h : S.size = 1024) (hA : S.extract 1020 1024 = A) (hB : strOf (Blk.le4 (Crc.sum (bn (S.extract 0 1020)))) = A) (hR : blockR (S.extract 0 1020) = T) :
    Calls Tryz.prog 145 #[.string S] w fun e w' => e = .returned (opened T) ∧ Below w.heap.size w w' := by
  have hs := fun w' (h' : Tab w') => sumOf_any (S.extract 0 1020) w' h' (by rw [ByteArray.size_extract]; unfold maxLen; omega)
  rw [hB] at hs
  have hk := fun w' => blockOf_any (S.extract 0 1020) w' (by rw [ByteArray.size_extract]; omega)
  rw [hR] at hk
  obtain ⟨K, G, P, E⟩ := T
  have HS := hide hs
  have HK := hide hk
  have HT := hide hT
  clear hs hT hB hk hR
  go_enter Tryz.func145, Tryz.ntmps145
  go_wp2_with fail
  have HX := Res.new w
  generalize w.alloc (.cells #[.int .i64 0, .int .i64 0, .string ⟨#[]⟩] 90) = w1 at *
  have HX' := hide HX
  clear HX
  go_region_held3 (fun w' => Below w.heap.size w w')
    (first | exact (unhide HX').1.drew | exact (unhide H2).1)
    (first | (go_at_call 101; refine (unhide HS _ ((unhide HT).below (unhide HX').drew.1)).mono ?_; rintro e w2 ⟨rfl, hb2⟩; have H2 := hide ((unhide HX').drew.then hb2)))
  go_wp2_with (go_at_call 176; refine (unhide HK _).mono ?_; unfold opened; rintro e w3 ⟨rfl, hb3⟩; have H3 := hide ((unhide H2).then hb3); obtain ⟨c0, c1, c2, cf⟩ := (unhide H3).cells)
  refine bodyPost_ret (v := opened (K, G, P, E)) ?_ rfl ⟨rfl, ?_⟩
  · rw [results_cell_tmp rfl]
    go_simp
    rfl
  · exact (unhide H3).set _ _ _

theorem bn_front (s : ByteArray) (j : Nat) : bn (s.extract 0 j) = (bn s).take j := by rw [bn_extract, List.drop_zero, Nat.sub_zero]
theorem fits_iff (S : ByteArray) (h : S.size = 1024) : S.extract 1020 1024 = strOf (Blk.le4 (Crc.sum (bn (S.extract 0 1020)))) ↔ (bn S).drop 1020 = Blk.le4 (Crc.sum ((bn S).take 1020)) := by
  have e : bn (S.extract 1020 1024) = (bn S).drop 1020 := by
    have := bn_from S 1020
    rw [h] at this
    exact this
  constructor
  · intro hh
    have := congrArg bn hh
    rw [e, bn_strOf _ (Blk.le4_lt _), bn_front] at this
    exact this
  · intro hh
    apply bn_inj
    rw [e, bn_strOf _ (Blk.le4_lt _), bn_front]
    exact hh

theorem open_any (S : ByteArray) (w : World) (hT : Tab w) :
    Calls Tryz.prog 145 #[.string S] w fun e w' => e = .returned (opened (openR S)) ∧ Below w.heap.size w w' := by
  unfold openR
  by_cases h : S.size = 1024
  · rw [if_neg (fun hh => hh h)]
    by_cases hf : (bn S).drop 1020 = Blk.le4 (Crc.sum ((bn S).take 1020))
    · rw [if_neg (fun hh => hh hf)]
      exact open_fits S _ _ w hT h rfl ((fits_iff S h).2 hf).symm rfl
    · rw [if_pos hf]
      exact open_sum S _ _ w hT h rfl rfl (fun hh => hf ((fits_iff S h).1 hh))
  · rw [if_pos h]
    exact open_size S w h
end Go.Proofs.YtdelobaiicoogaaGreatDoor.L4

/- A node's sector is taken and written; what stands in a sector is read. -/
namespace Go.Proofs.YtdelobaiicoogaaGreatDoor
open Go.ChangeShapes Go.WideShapes Go.ChangeAt Go.RowKit
variable {w w' : World} {p d : Nat} {h : Hp} {c : Nat} {F : List Nat} {a b kb : Nat} {fd : List Nat} {kf : Nat → Option Value}

theorem writeM_old (m : L3.Dk) (n : Int) (s : ByteArray) : (L3.writeM m n s).old.length = m.old.length := by
  unfold L3.writeM
  split
  · rfl
  · split
    · rfl
    · split
      · rfl
      · split <;> rfl
theorem takeE_cases (l : List L5.St) : L5.takeE l = 0 ∨ L5.takeE l = 50 := by
  unfold L5.takeE
  split
  · exact .inl rfl
  · exact .inr rfl
theorem gen64 (H : HeapAt w p d h c a b kb fd kf) : L5.I64 h.gen := by have := H.gen; unfold L5.I64; omega
theorem take64 (H : HeapAt w p d h c a b kb fd kf) : L5.I64 (L5.takeN 2 h.al) := by
  have := H.al.ok.few
  unfold L5.takeN L5.I64
  split
  · rename_i i hi
    have := (take_at hi 0).1
    unfold L5.In at this
    omega
  · decide

/-- where the two boxes of store stand -/
def Boxes (w : World) (a d : Nat) (k g : Int) (P : ByteArray) (w' : World) : Prop := Below w.heap.size w w' ∧ w'.cell? ⟨w.heap.size, 0, none⟩ = some (.pointer (some ⟨a, 0, none⟩)) ∧ w'.cell? ⟨w.heap.size, 1, none⟩ = some (.pointer (some ⟨d, 0, none⟩)) ∧
  w'.cell? ⟨w.heap.size + 1, 0, none⟩ = some (.int .i64 k) ∧ w'.cell? ⟨w.heap.size + 1, 1, none⟩ = some (.int .i64 g) ∧ w'.cell? ⟨w.heap.size + 1, 2, none⟩ = some (.string P)
theorem Boxes.new (w : World) (a d : Nat) (k g : Int) (P : ByteArray) : Boxes w a d k g P ((w.alloc (.cells #[.pointer (some ⟨a, 0, none⟩), .pointer (some ⟨d, 0, none⟩)] 83)).alloc (.cells #[.int .i64 k, .int .i64 g, .string P] 90)) := by
  refine ⟨((Below.refl _ _).alloc (Nat.le_refl _) _).alloc (by simp) _, ?_, ?_, ?_, ?_, ?_⟩ <;> simp
theorem cell_moves {fq : List Nat} (hm : Moves fq w w') {x i : Nat} {v : Value} (hc : w.cell? ⟨x, i, none⟩ = some v) (hx : x ∉ fq) : w'.cell? ⟨x, i, none⟩ = some v := (mv35 hm).cell hc hx

/-- the disk and the allocator have turned, all else stands where it stood -/
def STurned (w w' : World) (p d : Nat) (h : Hp) (c a b kb : Nat) (fd : List Nat) (kf : Nat → Option Value) : Prop := ∃ fd', HeapAt w' p d h c a b kb fd' kf ∧ Moves (foot p a b kb fd) w w' ∧ ∀ x ∈ fd', x ∈ fd ∨ w.heap.size ≤ x
theorem STurned.turned (k : STurned w w' p d h c a b kb fd kf) : HTurned w w' p d h c (foot p a b kb fd) := by
  obtain ⟨fd', h4, hm, hf⟩ := k
  refine ⟨_, ⟨a, b, kb, fd', kf, h4, rfl⟩, hm, fun x hx => ?_⟩
  simp only [foot, List.mem_cons] at hx ⊢
  rcases hx with e | e | e | e | e
  · exact .inl (.inl e)
  · exact .inl (.inr (.inl e))
  · exact .inl (.inr (.inr (.inl e)))
  · exact .inl (.inr (.inr (.inr (.inl e))))
  · rcases hf x e with e | e
    · exact .inl (.inr (.inr (.inr (.inr e))))
    · exact .inr e
set_option maxHeartbeats 2000000 in
set_option maxRecDepth 20000 in
theorem store_any (k : Nat) (P : ByteArray) (w : World) (H : HeapAt w p d h c a b kb fd kf) (hk : k ≤ 255) (hP : P.size ≤ 1007) (hc : c ≤ 1000000) :
    Calls Tryz.prog 26 #[.agg #[.pointer (some ⟨a, 0, none⟩), .pointer (some ⟨d, 0, none⟩)], .agg #[.int .i64 (k : Int), .int .i64 h.gen, .string P]] w fun e w' =>
      e = .returned (.tuple #[.int .i64 (storeR h (L4.wrapR (k : Int) h.gen P).1).1, .int .i64 (storeR h (L4.wrapR (k : Int) h.gen P).1).2.1]) ∧ STurned w w' p d (storeR h (L4.wrapR (k : Int) h.gen P).1).2.2 (c + 1) a b kb fd kf := by
  obtain ⟨g0, g1⟩ := H.gen
  obtain ⟨S, hS⟩ : ∃ S, L4.wrapR (k : Int) h.gen P = (S, 0) := ⟨_, L4.wrapR_ok (by omega) (by omega)⟩
  have hwr := fun w1 (hT : L4.Tab w1) => L4.wrap_any (k : Int) h.gen P w1 hT
  rw [hS] at hwr ⊢
  have HBX := hide (Boxes.new w a d (k : Int) h.gen P)
  have hlt := H.lt
  have HLT := hide hlt
  have HH := hide (H.grow (unhide HBX).1)
  have HWR := hide hwr
  have HG := hide (gen64 H)
  have HK64 := hide (take64 H)
  have HC := hide hc
  have HF0 := hide (H.mono (Nat.le_succ c))
  obtain ⟨K, hK⟩ : ∃ x, x = (k : Int) := ⟨_, rfl⟩
  obtain ⟨G, hG⟩ : ∃ x, x = h.gen := ⟨_, rfl⟩
  rw [← hK] at HBX HH HWR ⊢
  rw [← hG] at HBX HH HWR HG ⊢
  obtain ⟨_, q0, q1, r0, r1, r2⟩ := unhide HBX
  have HGE := hide hG
  clear H hlt hwr hc hk hP hS g0 g1 hG hK
  have HOK := hide ((unhide HF0).al.ok)
  by_cases hE : L5.takeE h.al = 0
  · have HTK := hide hE
    obtain ⟨N, hN⟩ : ∃ x, x = L5.takeN 2 h.al := ⟨_, rfl⟩
    have HN := hide hN
    rw [← hN] at HK64
    by_cases hW : L3.writeE h.dk N S = 0
    · have HWE := hide hW
      clear hE hN hW
      go_enter Tryz.func26, Tryz.ntmps26
      go_wp2_with (first
        | (go_at_call 59; refine (unhide HWR _ (unhide HH).tab).mono ?_; rintro e w2 ⟨rfl, hb2⟩; have c0 := (hb2.cell (World.block_lt_of_cell? _ _ q0)).trans q0; have c1 := (hb2.cell (World.block_lt_of_cell? _ _ q1)).trans q1; have d1 := (hb2.cell (World.block_lt_of_cell? _ _ r1)).trans r1; have HH2 := hide ((unhide HH).grow hb2); have HB2 := hide (below_then (unhide HBX).1 hb2); clear hb2 q0 q1 r0 r1 r2 HH HBX)
        | (go_at_call 60; refine (L5.take_any G (unhide HG) _ (unhide HH2).al).mono ?_; rintro e w3 ⟨rfl, ha3, hm3⟩; rw [unhide HTK, ← unhide HN]; have e0 := cell_moves hm3 c0 (by have := unhide HLT b (by simp [foot]); simp; omega); have e1 := cell_moves hm3 c1 (by have := unhide HLT b (by simp [foot]); simp; omega); have f1 := cell_moves hm3 d1 (by have := unhide HLT b (by simp [foot]); simp; omega); have HH3 := hide ((unhide HH2).alloc hm3 ha3 (length_take _ _)); have HM3 := hide hm3; clear ha3 hm3 c0 c1 d1)
        | (go_at_call 61; refine (L3.write_any N S fd _ (unhide HH3).dk (unhide HC)).mono ?_; rintro e w4 ⟨rfl, ht4⟩; rw [unhide HWE]; have HX4 := hide ht4; clear ht4))
      go_ret2
      have hs : storeR h S = (N, 0, { h with dk := L3.writeM h.dk N S, al := L5.takeM h.al h.gen }) := by
        unfold storeR
        rw [if_neg (fun hn => hn (unhide HTK)), ← unhide HN, if_neg (fun hn => hn (unhide HWE))]
      rw [hs]
      refine ⟨rfl, ?_⟩
      obtain ⟨fd', h4, hm4, hf4⟩ := (unhide HH3).disk (unhide HX4) (writeM_old _ _ _) (Nat.le_succ c)
      rw [unhide HGE] at h4
      have hm3 := unhide HM3
      have hsz := Nat.le_trans (unhide HB2).size hm3.size
      refine ⟨fd', h4, ((L5.Moves.of_below _ (unhide HB2)).trans hm3 (fun x hx => .inl (by simp at hx; simp [foot, hx]))).trans hm4 (fun x hx => .inl (by simp [foot, hx])), fun x hx => ?_⟩
      rcases hf4 x hx with e | e
      · exact .inl e
      · exact .inr (by omega)
    · have HWE := hide hW
      have hW1 : (L3.writeE h.dk N S == 0) = false := beq_eq_false_iff_ne.2 hW
      have hW2 : (L3.writeE h.dk N S != 0) = true := bne_iff_ne.2 hW
      obtain ⟨E, hE'⟩ : ∃ x, x = L3.writeE h.dk N S := ⟨_, rfl⟩
      rw [← hE'] at hW1 hW2
      have HE := hide hE'
      clear hE hN hW hE'
      go_enter Tryz.func26, Tryz.ntmps26
      go_wp2_with (first
        | (go_at_call 59; refine (unhide HWR _ (unhide HH).tab).mono ?_; rintro e w2 ⟨rfl, hb2⟩; have c0 := (hb2.cell (World.block_lt_of_cell? _ _ q0)).trans q0; have c1 := (hb2.cell (World.block_lt_of_cell? _ _ q1)).trans q1; have d1 := (hb2.cell (World.block_lt_of_cell? _ _ r1)).trans r1; have HH2 := hide ((unhide HH).grow hb2); have HB2 := hide (below_then (unhide HBX).1 hb2); clear hb2 q0 q1 r0 r1 r2 HH HBX)
        | (go_at_call 60; refine (L5.take_any G (unhide HG) _ (unhide HH2).al).mono ?_; rintro e w3 ⟨rfl, ha3, hm3⟩; rw [unhide HTK, ← unhide HN]; have e0 := cell_moves hm3 c0 (by have := unhide HLT b (by simp [foot]); simp; omega); have e1 := cell_moves hm3 c1 (by have := unhide HLT b (by simp [foot]); simp; omega); have f1 := cell_moves hm3 d1 (by have := unhide HLT b (by simp [foot]); simp; omega); have HH3 := hide ((unhide HH2).alloc hm3 ha3 (length_take _ _)); have HM3 := hide hm3; clear ha3 hm3 c0 c1 d1)
        | (go_at_call 61; refine (L3.write_any N S fd _ (unhide HH3).dk (unhide HC)).mono ?_; rintro e w4 ⟨rfl, ht4⟩; rw [← unhide HE]; obtain ⟨fd', h4, hm4, hf4⟩ := (unhide HH3).disk ht4 (writeM_old _ _ _) (Nat.le_succ c); have i0 := cell_moves hm4 e0 (by intro hx; have := unhide HLT _ (by simp [foot]; exact .inr (.inr (.inr (.inr hx)))); omega); have i1 := cell_moves hm4 f1 (by intro hx; have := unhide HLT _ (by simp [foot]; exact .inr (.inr (.inr (.inr hx)))); omega); have HH4 := hide h4; have HM4 := hide (And.intro hm4 hf4); clear ht4 h4 hm4 hf4 e0 e1 f1)
        | (go_at_call 62; refine (L5.drop_any N G _ (unhide HH4).al (unhide HK64) (unhide HG)).mono ?_; rintro e w5 ⟨rfl, ha5, hm5⟩; have HX5 := hide (And.intro ha5 hm5); clear ha5 hm5))
      go_ret2
      have hs : storeR h S = (0, E, { h with dk := L3.writeM h.dk N S, al := L5.dropM 2 (L5.takeM h.al h.gen) N h.gen }) := by
        unfold storeR
        rw [if_neg (fun hn => hn (unhide HTK)), ← unhide HN, if_pos (unhide HWE), ← unhide HE]
      rw [hs]
      refine ⟨rfl, ?_⟩
      obtain ⟨ha5, hm5⟩ := unhide HX5
      obtain ⟨hm4, hf4⟩ := unhide HM4
      have h5 := (unhide HH4).alloc hm5 ha5 (length_drop _ _ _)
      rw [unhide HGE] at h5
      have hm3 := unhide HM3
      have hsz := Nat.le_trans (unhide HB2).size hm3.size
      refine ⟨fd', h5, (((L5.Moves.of_below _ (unhide HB2)).trans hm3 (fun x hx => .inl (by simp at hx; simp [foot, hx]))).trans hm4 (fun x hx => .inl (by simp [foot, hx]))).trans hm5 (fun x hx => .inl (by simp at hx; simp [foot, hx])), fun x hx => ?_⟩
      rcases hf4 x hx with e | e
      · exact .inl e
      · exact .inr (by omega)
  · have h50 : L5.takeE h.al = 50 := (takeE_cases h.al).resolve_left hE
    have HTK := hide h50
    clear hE h50
    go_enter Tryz.func26, Tryz.ntmps26
    go_wp2_with (first
      | (go_at_call 59; refine (unhide HWR _ (unhide HH).tab).mono ?_; rintro e w2 ⟨rfl, hb2⟩; have c0 := (hb2.cell (World.block_lt_of_cell? _ _ q0)).trans q0; have c1 := (hb2.cell (World.block_lt_of_cell? _ _ q1)).trans q1; have d1 := (hb2.cell (World.block_lt_of_cell? _ _ r1)).trans r1; have HH2 := hide ((unhide HH).grow hb2); have HB2 := hide (below_then (unhide HBX).1 hb2); clear hb2 q0 q1 r0 r1 r2 HH HBX)
      | (go_at_call 60; refine (L5.take_any G (unhide HG) _ (unhide HH2).al).mono ?_; rintro e w3 ⟨rfl, ha3, hm3⟩; rw [unhide HTK]; have e0 := cell_moves hm3 c0 (by have := unhide HLT b (by simp [foot]); simp; omega); have e1 := cell_moves hm3 c1 (by have := unhide HLT b (by simp [foot]); simp; omega); have f1 := cell_moves hm3 d1 (by have := unhide HLT b (by simp [foot]); simp; omega); have HH3 := hide ((unhide HH2).alloc hm3 ha3 (length_take _ _)); have HM3 := hide hm3; clear ha3 hm3 c0 c1 d1))
    go_ret2
    have htm : L5.takeM h.al G = h.al := by
      have := unhide HTK
      unfold L5.takeE at this
      unfold L5.takeM
      split
      · rename_i i hi
        rw [hi] at this
        exact absurd (show (0 : Int) = 50 from this) (by decide)
      · rfl
    have hs : storeR h S = (0, 50, h) := by
      unfold storeR
      rw [if_pos (by rw [unhide HTK]; decide), unhide HTK]
    rw [hs]
    refine ⟨rfl, ?_⟩
    have h3 := (unhide HH3).mono (Nat.le_succ c)
    rw [htm] at h3
    exact ⟨fd, h3, (L5.Moves.of_below _ (unhide HB2)).trans (unhide HM3) (fun x hx => .inl (by simp at hx; simp [foot, hx])), fun x hx => .inl hx⟩
end Go.Proofs.YtdelobaiicoogaaGreatDoor

/- What stands in a sector is read: fetch; Get. -/
namespace Go.Proofs.YtdelobaiicoogaaGreatDoor
open Go.ChangeShapes Go.WideShapes Go.ChangeAt Go.RowKit
variable {w w' : World} {p d : Nat} {h : Hp} {c : Nat} {F : List Nat} {a b kb : Nat} {fd : List Nat} {kf : Nat → Option Value}

def FetchSaid (T : L6.Nd × Int × Int) (w : World) (x : Ending) (w' : World) : Prop := ∃ (ai ak : Option Addr) (ci ck : Nat), x = .returned (.tuple #[.agg #[.bool T.1.leaf, .slice ai T.1.its.length ci, .slice ak T.1.kds.length ck], .int .i64 T.2.1, .int .i64 T.2.2]) ∧ L6.Has w' T.1 ai ak ∧ Below w.heap.size w w'

theorem results_cell_tmp2 {fn : Func} {p u v : Tmp} {ty : TypeId} (h : fn.results = #[.cell p ty, .tmp u, .tmp v]) (tmps : Array Value) (P : Program) (w : World) :
    (results fn tmps).run P w =
      ((asAddr (tmps.getD p undef)).run P w).andThen fun a w₁ => ((loadVar ty a).run P w₁).andThen fun x w₂ => .ok (.tuple #[x, tmps.getD u undef, tmps.getD v undef]) w₂ := by
  simp only [results, h]
  simp [Sem.run_bind, Result.andThen]
end Go.Proofs.YtdelobaiicoogaaGreatDoor

/- Get; Put. -/
namespace Go.Proofs.YtdelobaiicoogaaGreatDoor
open Go.ChangeShapes Go.WideShapes Go.ChangeAt Go.RowKit
variable {w w' : World} {p d : Nat} {h : Hp} {c : Nat} {F : List Nat} {a b kb : Nat} {fd : List Nat} {kf : Nat → Option Value}

def GetSaid (T : L6.Nd × Int) (w : World) (x : Ending) (w' : World) : Prop := ∃ (ai ak : Option Addr) (ci ck : Nat), x = .returned (.tuple #[.agg #[.bool T.1.leaf, .slice ai T.1.its.length ci, .slice ak T.1.kds.length ck], .int .i64 T.2]) ∧ L6.Has w' T.1 ai ak ∧ Below w.heap.size w w'

end Go.Proofs.YtdelobaiicoogaaGreatDoor
