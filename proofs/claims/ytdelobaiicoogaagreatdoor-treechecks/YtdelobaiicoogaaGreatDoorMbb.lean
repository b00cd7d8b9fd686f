/- Texts that the proof needs, one behind the other. -/
import Derived.Test.YtdelobaiicoogaaGreatDoorMaf
import Derived.Test.YtdelobaiicoogaaGreatDoorMba
import Derived.Test.YtdelobaiicoogaaGreatDoorMag
import Derived.Test.YtdelobaiicoogaaGreatDoorMat
/- A node's bytes, as the document has them. -/
namespace Go.Proofs.YtdelobaiicoogaaGreatDoor.L6
open Go.ChangeShapes Go.WideShapes Go.ChangeAt Go.RowKit

theorem ret_str' {s t : ByteArray} (h : s = t) : Ending.returned (.string s) = .returned (.string t) := by rw [h]

set_option maxRecDepth 10000 in
set_option maxHeartbeats 2000000 in
theorem refItem_any (k v : ByteArray) (w : World) (hk : k.size ≤ 400000) (hv : v.size ≤ 400000) :
    Calls Tryz.prog 109 #[.agg #[.string k, .string v]] w fun e w' => e = .returned (.string (strOf (itL (k, v)))) ∧ Below w.heap.size w w' := by
  have T1 := hide (fun W => refText_any k W (by omega))
  have T2 := hide (fun W => refText_any v W (by omega))
  rw [strOf_txL] at T1 T2
  have hz1 := strOf_size (txL k)
  have hz2 := strOf_size (txL v)
  have hl1 := txL_length k
  have hl2 := txL_length v
  have hadd := add_run' (strOf (txL k)) (strOf (txL v)) (by omega)
  have HE : Hid (strOf (txL k) ++ strOf (txL v) = strOf (itL (k, v))) := (strOf_append _ _).symm
  have q0 : (w.alloc (.cells #[.string k, .string v] 58)).cell? ⟨w.heap.size, 0, none⟩ = some (.string k) := by simp
  have q1 : (w.alloc (.cells #[.string k, .string v] 58)).cell? ⟨w.heap.size, 1, none⟩ = some (.string v) := by simp
  have HB := hide (below_alloc w (.cells #[.string k, .string v] 58))
  clear hz1 hz2 hl1 hl2
  go_enter Tryz.func109, Tryz.ntmps109
  go_wp2_with fail
  generalize strOf (txL k) = K at *
  generalize strOf (txL v) = V at *
  obtain ⟨p, hp'⟩ : ∃ y, y = w.heap.size := ⟨_, rfl⟩
  rw [← hp'] at q0 q1 ⊢
  generalize w.alloc (.cells #[.string k, .string v] 58) = w1 at *
  clear hp'
  have H0 : Hid (Below w.heap.size w w1.drew ∧ w1.drew.cell? ⟨p, 0, none⟩ = some (.string k) ∧ w1.drew.cell? ⟨p, 1, none⟩ = some (.string v)) := ⟨(unhide HB).drew, q0, q1⟩
  clear q0 q1
  go_region_held3 (fun w' => Below w.heap.size w w' ∧ w'.cell? ⟨p, 0, none⟩ = some (.string k) ∧ w'.cell? ⟨p, 1, none⟩ = some (.string v))
    (first | assumption | exact unhide H0)
    (first
      | (go_at_call 140; refine (unhide T1 _).mono ?_; rintro e w2 ⟨rfl, hb⟩; have H1 : Below w.heap.size w w2 ∧ w2.cell? ⟨p, 0, none⟩ = some (.string k) ∧ w2.cell? ⟨p, 1, none⟩ = some (.string v) := ⟨below_then (unhide H0).1 hb, cell_keep (unhide H0).2.1 hb, cell_keep (unhide H0).2.2 hb⟩; clear hb T1)
      | (go_at_call 140; refine (unhide T2 _).mono ?_; rintro e w3 ⟨rfl, hb⟩; have H2 : Below w.heap.size w w3 ∧ w3.cell? ⟨p, 0, none⟩ = some (.string k) ∧ w3.cell? ⟨p, 1, none⟩ = some (.string v) := ⟨below_then H1.1 hb, cell_keep H1.2.1 hb, cell_keep H1.2.2 hb⟩; clear hb))
  have HF := hide H2.1
  clear H1 H2 T2 hadd
  go_wp2
  go_ret
  exact ⟨ret_str' (unhide HE), unhide HF⟩

set_option maxRecDepth 10000 in
set_option maxHeartbeats 2000000 in
theorem refKid_any (k : ByteArray) (v : Int) (w : World) (hk : k.size ≤ 400000) (hv : 0 ≤ v ∧ v < 9223372036854775808) :
    Calls Tryz.prog 110 #[.agg #[.string k, .int .i64 v]] w fun e w' => e = .returned (.string (strOf (kdL (k, v)))) ∧ Below w.heap.size w w' := by
  have hw : IntKind.u64.wrap v = v := by rw [IntKind.wrap_u64]; omega
  have T1 := hide (fun W => refText_any k W (by omega))
  have T2 := hide (fun W => refShort_any v W (by omega))
  rw [strOf_txL] at T1
  have hz1 := strOf_size (txL k)
  have hz2 := strOf_size (Pk.shL v.toNat)
  have hl1 := txL_length k
  have hl2 := Pk.shL_le v.toNat
  have hadd := add_run' (strOf (txL k)) (strOf (Pk.shL v.toNat)) (by omega)
  have HE : Hid (strOf (txL k) ++ strOf (Pk.shL v.toNat) = strOf (kdL (k, v))) := (strOf_append _ _).symm
  have q0 : (w.alloc (.cells #[.string k, .int .i64 v] 76)).cell? ⟨w.heap.size, 0, none⟩ = some (.string k) := by simp
  have q1 : (w.alloc (.cells #[.string k, .int .i64 v] 76)).cell? ⟨w.heap.size, 1, none⟩ = some (.int .i64 v) := by simp
  have HB := hide (below_alloc w (.cells #[.string k, .int .i64 v] 76))
  clear hz1 hz2 hl1 hl2
  go_enter Tryz.func110, Tryz.ntmps110
  go_wp2_with fail
  generalize strOf (txL k) = K at *
  generalize strOf (Pk.shL v.toNat) = V at *
  obtain ⟨p, hp'⟩ : ∃ y, y = w.heap.size := ⟨_, rfl⟩
  rw [← hp'] at q0 q1 ⊢
  generalize w.alloc (.cells #[.string k, .int .i64 v] 76) = w1 at *
  clear hp'
  have H0 : Hid (Below w.heap.size w w1.drew ∧ w1.drew.cell? ⟨p, 0, none⟩ = some (.string k) ∧ w1.drew.cell? ⟨p, 1, none⟩ = some (.int .i64 v)) := ⟨(unhide HB).drew, q0, q1⟩
  clear q0 q1
  go_region_held3 (fun w' => Below w.heap.size w w' ∧ w'.cell? ⟨p, 0, none⟩ = some (.string k) ∧ w'.cell? ⟨p, 1, none⟩ = some (.int .i64 v))
    (first | assumption | exact unhide H0)
    (first
      | (go_at_call 140; refine (unhide T1 _).mono ?_; rintro e w2 ⟨rfl, hb⟩; have H1 : Below w.heap.size w w2 ∧ w2.cell? ⟨p, 0, none⟩ = some (.string k) ∧ w2.cell? ⟨p, 1, none⟩ = some (.int .i64 v) := ⟨below_then (unhide H0).1 hb, cell_keep (unhide H0).2.1 hb, cell_keep (unhide H0).2.2 hb⟩; clear hb T1)
      | (go_at_call 108; refine (unhide T2 _).mono ?_; rintro e w3 ⟨rfl, hb⟩; have H2 : Below w.heap.size w w3 ∧ w3.cell? ⟨p, 0, none⟩ = some (.string k) ∧ w3.cell? ⟨p, 1, none⟩ = some (.int .i64 v) := ⟨below_then H1.1 hb, cell_keep H1.2.1 hb, cell_keep H1.2.2 hb⟩; clear hb))
  have HF := hide H2.1
  clear H1 H2 T2 hadd
  go_wp2
  go_ret
  exact ⟨ret_str' (unhide HE), unhide HF⟩
end Go.Proofs.YtdelobaiicoogaaGreatDoor.L6

/- A node's bytes, as the document has them: the loops. -/
namespace Go.Proofs.YtdelobaiicoogaaGreatDoor.L6
open Go.ChangeShapes Go.WideShapes Go.ChangeAt Go.RowKit

theorem str_eq {s t : ByteArray} (h : s = t) : Value.string s = .string t := by rw [h]

set_option maxRecDepth 10000 in
set_option maxHeartbeats 4000000 in
theorem refBytesI (ai ak : Option Addr) (ci ck : Nat) (its : List It) (w : World) (hr : Row Value.string w ai its) (hl : its.length ≤ 1100) (hm : ∀ x ∈ its, mayI x = true) :
    Calls Tryz.prog 64 #[.agg #[.bool true, .slice ai its.length ci, .slice ak 0 ck]] w fun e w' => e = .returned (.string (strOf (1 :: (Pk.shL its.length ++ its.flatMap itL)))) ∧ Below w.heap.size w w' := by
  have hb0 := below_alloc w (.cells #[.bool true, .slice ai its.length ci, .slice ak 0 ck] 38)
  have HR := hide (hr.grow hb0)
  have HBW := hide hb0
  have HM := hide hm
  have HFL : Hid ((its.flatMap itL).length ≤ 500000) := Nat.le_trans (flat_le its (fun x hx => itL_le (hm x hx))) (by omega)
  have hw : IntKind.u64.wrap (its.length : Int) = (its.length : Int) := by rw [IntKind.wrap_u64]; omega
  have hS0 := fun W => refShort_any 0 W (by omega)
  have HS0 := hide hS0
  have hSL := fun W => refShort_any (its.length : Int) W (by omega)
  rw [Int.toNat_natCast] at hSL
  have HSL := hide hSL
  have hz0 : (strOf (Pk.shL (0 : Int).toNat)).size ≤ 10 := by rw [strOf_size]; exact Pk.shL_le _
  have hz1 : (strOf (Pk.shL its.length)).size ≤ 10 := by rw [strOf_size]; exact Pk.shL_le _
  have HE0 : Hid (⟨#[1]⟩ ++ strOf (Pk.shL its.length) = strOf (1 :: Pk.shL its.length)) := (strOf_append [1] _).symm
  generalize strOf (Pk.shL (0 : Int).toNat) = Z at *
  generalize strOf (Pk.shL its.length) = ZL at *
  have q0 : (w.alloc (.cells #[.bool true, .slice ai its.length ci, .slice ak 0 ck] 38)).cell? ⟨w.heap.size, 0, none⟩ = some (.bool true) := by simp
  have q1 : (w.alloc (.cells #[.bool true, .slice ai its.length ci, .slice ak 0 ck] 38)).cell? ⟨w.heap.size, 1, none⟩ = some (.slice ai its.length ci) := by simp
  have q2 : (w.alloc (.cells #[.bool true, .slice ai its.length ci, .slice ak 0 ck] 38)).cell? ⟨w.heap.size, 2, none⟩ = some (.slice ak 0 ck) := by simp
  have HBD := hide (Below.refl (w.alloc (.cells #[.bool true, .slice ai its.length ci, .slice ak 0 ck] 38)).heap.size (w.alloc (.cells #[.bool true, .slice ai its.length ci, .slice ak 0 ck] 38)))
  clear hr hb0 hm hS0 hSL
  go_enter Tryz.func64, Tryz.ntmps64
  go_wp2_with fail
  obtain ⟨p, hp⟩ : ∃ y, y = w.heap.size := ⟨_, rfl⟩
  rw [← hp] at q0 q1 q2 ⊢
  generalize w.alloc (.cells #[.bool true, .slice ai its.length ci, .slice ak 0 ck] 38) = w0 at *
  clear hp
  go_wp2_with (first
    | (go_at_call 108; refine (unhide HS0 _).mono ?_; rintro e w2 ⟨rfl, hb⟩; have z0 := cell_keep q0 hb; have z1 := cell_keep q1 hb; have z2 := cell_keep q2 hb; have HB1 := hide (below_then (unhide HBD) hb); clear hb HS0 q0 q1 q2)
    | (go_at_call 108; refine (unhide HSL _).mono ?_; rintro e w3 ⟨rfl, hb⟩; have q1 := cell_keep z1 hb; have q2 := cell_keep z2 hb; have HB0 := hide (below_then (unhide HB1) hb); clear hb z0 z1 z2))
  go_loopw [3, 4] (fun u t wr => ∃ k : Nat, k ≤ its.length ∧ t = .int .i64 k ∧ u = .string (strOf (1 :: (Pk.shL its.length ++ (its.take k).flatMap itL))) ∧ wr.cell? ⟨p, 1, none⟩ = some (.slice ai its.length ci) ∧ wr.cell? ⟨p, 2, none⟩ = some (.slice ak 0 ck) ∧ Below w0.heap.size w0 wr) (fun _ t _ => its.length - (intOf t).toNat)
  case atStart => exact ⟨0, Nat.zero_le _, rfl, by rw [List.take_zero, List.flatMap_nil, List.append_nil]; exact str_eq (unhide HE0), q1, q2, unhide HB0⟩
  case round =>
    obtain ⟨k, hk, rfl, rfl, q1, q2, hbel⟩ := hrel
    have HBel := hide hbel
    clear hbel
    by_cases hlt : k < its.length
    · obtain ⟨b, off, rfl, hr⟩ := (unhide HR).at hlt
      obtain ⟨⟨key, val⟩, hx⟩ := get_some hlt
      have c0 := cell_keep_of (unhide HBel) (hr k _ hx).1
      have c1 := cell_keep_of (unhide HBel) (hr k _ hx).2
      simp only at c0 c1
      have hm := (unhide HM) _ (List.mem_of_getElem? hx)
      have hil : (itL (key, val)).length ≤ 452 := itL_le hm
      simp [mayI] at hm
      have HST : Hid (strOf (1 :: (Pk.shL its.length ++ (its.take k).flatMap itL)) ++ strOf (itL (key, val)) = strOf (1 :: (Pk.shL its.length ++ (its.take (k + 1)).flatMap itL))) := by
        show _ = _
        rw [take_flat itL hx, ← strOf_append]
        congr 1
        simp
      have hS : (strOf (1 :: (Pk.shL its.length ++ (its.take k).flatMap itL))).size ≤ 900000 := by
        rw [strOf_size, List.length_cons, List.length_append]
        have h1 := take_flat_le itL its k
        have h2 := unhide HFL
        have h3 := Pk.shL_le its.length
        omega
      have hI : (strOf (itL (key, val))).size ≤ 452 := by rw [strOf_size]; exact hil
      have HC := hide (fun W => refItem_any key val W (by omega) (by omega))
      generalize strOf (1 :: (Pk.shL its.length ++ (its.take k).flatMap itL)) = S at *
      generalize strOf (itL (key, val)) = V at *
      clear hx hr HR hm hil
      go_wp2_with (go_at_call 109; refine (unhide HC _).mono ?_; rintro e w3 ⟨rfl, hb⟩; have HB3 := hide hb; clear hb)
      go_roundw
      case rel => exact ⟨k + 1, by omega, by go_num, str_eq (unhide HST), cell_keep q1 (unhide HB3), cell_keep q2 (unhide HB3), below_then (unhide HBel) (unhide HB3)⟩
      case measure => simp [intOf]; omega
    · obtain rfl : k = its.length := by omega
      rw [List.take_length]
      go_wp2
      go_loop [3, 5] (fun u t => t = .int .i64 0 ∧ u = .string (strOf (1 :: (Pk.shL its.length ++ its.flatMap itL)))) (fun _ _ => 0)
      case atStart => exact ⟨rfl, rfl⟩
      case round =>
        obtain ⟨rfl, rfl⟩ := hrel
        go_wp2
        go_ret
        exact ⟨rfl, below_then (unhide HBW) (unhide HBel)⟩

set_option maxRecDepth 10000 in
set_option maxHeartbeats 4000000 in
theorem refBytesK (ai ak : Option Addr) (ci ck : Nat) (kds : List Kd) (w : World) (hr : Row kv w ak kds) (hl : kds.length ≤ 1100) (hm : ∀ x ∈ kds, mayK x = true) :
    Calls Tryz.prog 64 #[.agg #[.bool false, .slice ai 0 ci, .slice ak kds.length ck]] w fun e w' => e = .returned (.string (strOf (2 :: (Pk.shL kds.length ++ kds.flatMap kdL)))) ∧ Below w.heap.size w w' := by
  have hb0 := below_alloc w (.cells #[.bool false, .slice ai 0 ci, .slice ak kds.length ck] 38)
  have HR := hide (hr.grow hb0)
  have HBW := hide hb0
  have HM := hide hm
  have HFL : Hid ((kds.flatMap kdL).length ≤ 500000) := Nat.le_trans (flat_le kds (fun x hx => kdL_le (hm x hx))) (by omega)
  have hw : IntKind.u64.wrap (kds.length : Int) = (kds.length : Int) := by rw [IntKind.wrap_u64]; omega
  have hS0 := fun W => refShort_any 0 W (by omega)
  have HS0 := hide hS0
  have hSL := fun W => refShort_any (kds.length : Int) W (by omega)
  rw [Int.toNat_natCast] at hSL
  have HSL := hide hSL
  have hz0 : (strOf (Pk.shL (0 : Int).toNat)).size ≤ 10 := by rw [strOf_size]; exact Pk.shL_le _
  have hz1 : (strOf (Pk.shL kds.length)).size ≤ 10 := by rw [strOf_size]; exact Pk.shL_le _
  have HE0 : Hid (⟨#[2]⟩ ++ strOf (Pk.shL kds.length) = strOf (2 :: Pk.shL kds.length)) := (strOf_append [2] _).symm
  generalize strOf (Pk.shL (0 : Int).toNat) = Z at *
  generalize strOf (Pk.shL kds.length) = ZL at *
  have q0 : (w.alloc (.cells #[.bool false, .slice ai 0 ci, .slice ak kds.length ck] 38)).cell? ⟨w.heap.size, 0, none⟩ = some (.bool false) := by simp
  have q1 : (w.alloc (.cells #[.bool false, .slice ai 0 ci, .slice ak kds.length ck] 38)).cell? ⟨w.heap.size, 2, none⟩ = some (.slice ak kds.length ck) := by simp
  have q2 : (w.alloc (.cells #[.bool false, .slice ai 0 ci, .slice ak kds.length ck] 38)).cell? ⟨w.heap.size, 1, none⟩ = some (.slice ai 0 ci) := by simp
  have HBD := hide (Below.refl (w.alloc (.cells #[.bool false, .slice ai 0 ci, .slice ak kds.length ck] 38)).heap.size (w.alloc (.cells #[.bool false, .slice ai 0 ci, .slice ak kds.length ck] 38)))
  clear hr hb0 hm hS0 hSL
  go_enter Tryz.func64, Tryz.ntmps64
  go_wp2_with fail
  obtain ⟨p, hp⟩ : ∃ y, y = w.heap.size := ⟨_, rfl⟩
  rw [← hp] at q0 q1 q2 ⊢
  generalize w.alloc (.cells #[.bool false, .slice ai 0 ci, .slice ak kds.length ck] 38) = w0 at *
  clear hp
  go_wp2_with (go_at_call 108; refine (unhide HSL _).mono ?_; rintro e w2 ⟨rfl, hb⟩; have q0 := cell_keep q0 hb; have q1 := cell_keep q1 hb; have q2 := cell_keep q2 hb; have HB0 := hide (below_then (unhide HBD) hb); clear hb)
  go_loop [3, 4] (fun u t => t = .int .i64 0 ∧ u = .string (⟨#[2]⟩ ++ ZL)) (fun _ _ => 0)
  case atStart => exact ⟨rfl, rfl⟩
  case round =>
    obtain ⟨rfl, rfl⟩ := hrel
    go_wp2
    go_loopw [3, 5] (fun u t wr => ∃ k : Nat, k ≤ kds.length ∧ t = .int .i64 k ∧ u = .string (strOf (2 :: (Pk.shL kds.length ++ (kds.take k).flatMap kdL))) ∧ wr.cell? ⟨p, 2, none⟩ = some (.slice ak kds.length ck) ∧ wr.cell? ⟨p, 1, none⟩ = some (.slice ai 0 ci) ∧ Below w0.heap.size w0 wr) (fun _ t _ => kds.length - (intOf t).toNat)
    case atStart => exact ⟨0, Nat.zero_le _, rfl, by rw [List.take_zero, List.flatMap_nil, List.append_nil]; exact str_eq (unhide HE0), q1, q2, unhide HB0⟩
    case round =>
      obtain ⟨k, hk, rfl, rfl, q1, q2, hbel⟩ := hrel
      have HBel := hide hbel
      clear hbel
      by_cases hlt : k < kds.length
      · obtain ⟨b, off, rfl, hr⟩ := (unhide HR).at hlt
        obtain ⟨⟨key, val⟩, hx⟩ := get_some hlt
        have c0 := cell_keep_of (unhide HBel) (hr k _ hx).1
        have c1 := cell_keep_of (unhide HBel) (hr k _ hx).2
        simp only at c0 c1
        have hm := (unhide HM) _ (List.mem_of_getElem? hx)
        have hil : (kdL (key, val)).length ≤ 452 := kdL_le hm
        simp [mayK] at hm
        have HST : Hid (strOf (2 :: (Pk.shL kds.length ++ (kds.take k).flatMap kdL)) ++ strOf (kdL (key, val)) = strOf (2 :: (Pk.shL kds.length ++ (kds.take (k + 1)).flatMap kdL))) := by
          show _ = _
          rw [take_flat kdL hx, ← strOf_append]
          congr 1
          simp
        have hS : (strOf (2 :: (Pk.shL kds.length ++ (kds.take k).flatMap kdL))).size ≤ 900000 := by
          rw [strOf_size, List.length_cons, List.length_append]
          have h1 := take_flat_le kdL kds k
          have h2 := unhide HFL
          have h3 := Pk.shL_le kds.length
          omega
        have hI : (strOf (kdL (key, val))).size ≤ 452 := by rw [strOf_size]; exact hil
        have HC := hide (fun W => refKid_any key val W (by omega) (by omega))
        generalize strOf (2 :: (Pk.shL kds.length ++ (kds.take k).flatMap kdL)) = S at *
        generalize strOf (kdL (key, val)) = V at *
        clear hx hr HR hm hil
        go_wp2_with (go_at_call 110; refine (unhide HC _).mono ?_; rintro e w3 ⟨rfl, hb⟩; have HB3 := hide hb; clear hb)
        go_roundw
        case rel => exact ⟨k + 1, by omega, by go_num, str_eq (unhide HST), cell_keep q1 (unhide HB3), cell_keep q2 (unhide HB3), below_then (unhide HBel) (unhide HB3)⟩
        case measure => simp [intOf]; omega
      · obtain rfl : k = kds.length := by omega
        rw [List.take_length]
        go_wp2
        go_ret
        exact ⟨rfl, below_then (unhide HBW) (unhide HBel)⟩
end Go.Proofs.YtdelobaiicoogaaGreatDoor.L6

/- Right, Check, Size, Encode, as the document answers: the same functions. -/
namespace Go.Proofs.YtdelobaiicoogaaGreatDoor.L6
open Go.ChangeShapes Go.WideShapes Go.ChangeAt Go.RowKit

set_option maxRecDepth 10000 in
set_option maxHeartbeats 2000000 in
theorem refRight_any (n : Nd) (ai ak : Option Addr) (ci ck : Nat) (w : World) (hn : Has w n ai ak) (hil : n.its.length ≤ 1000000) (hkl : n.kds.length ≤ 1000000) :
    Calls Tryz.prog 107 #[.agg #[.bool n.leaf, .slice ai n.its.length ci, .slice ak n.kds.length ck]] w fun e w' => e = .returned (.bool (rightB n)) ∧ Below w.heap.size w w' := by
  obtain ⟨L, its, kds⟩ := n
  simp only at hil hkl
  cases L with
  | true =>
    by_cases h0 : kds.length = 0
    · obtain rfl := List.length_eq_zero_iff.1 h0
      by_cases h1 : 0 < its.length
      · have e : rightB ⟨true, its, []⟩ = rise mayI none its := by simp [rightB, len_some h1]
        rw [e]
        exact refRightI ai ak ci ck its w hn.1 hil h1
      · have e : rightB ⟨true, its, []⟩ = false := by simp [rightB, len_zero (show its.length = 0 by omega)]
        rw [e]
        have e0 : ((its.length : Int) == 0) = true := beq_iff_eq.2 (by omega)
        clear e h0 hn h1
        go_enter Tryz.func107, Tryz.ntmps107
        go_wp2
        go_ret
        exact ⟨rfl, below_alloc _ _⟩
    · have e : rightB ⟨true, its, kds⟩ = false := by simp [rightB, len_some (Nat.pos_of_ne_zero h0)]
      rw [e]
      have hp : 0 < kds.length := Nat.pos_of_ne_zero h0
      clear e hn h0
      by_cases h1 : 0 < its.length
      · have e0 : ((its.length : Int) == 0) = false := beq_eq_false_iff_ne.2 (by omega)
        clear h1
        go_enter Tryz.func107, Tryz.ntmps107
        go_wp2
        go_ret
        exact ⟨rfl, below_alloc _ _⟩
      · have e0 : ((its.length : Int) == 0) = true := beq_iff_eq.2 (by omega)
        clear h1
        go_enter Tryz.func107, Tryz.ntmps107
        go_wp2
        go_ret
        exact ⟨rfl, below_alloc _ _⟩
  | false =>
    by_cases h0 : its.length = 0
    · obtain rfl := List.length_eq_zero_iff.1 h0
      by_cases h1 : 0 < kds.length
      · have e : rightB ⟨false, [], kds⟩ = rise mayK none kds := by simp [rightB, len_some h1]
        rw [e]
        exact refRightK ai ak ci ck kds w hn.2 hkl h1
      · have e : rightB ⟨false, [], kds⟩ = false := by simp [rightB, len_zero (show kds.length = 0 by omega)]
        rw [e]
        have e0 : ((kds.length : Int) == 0) = true := beq_iff_eq.2 (by omega)
        clear e h0 hn h1
        go_enter Tryz.func107, Tryz.ntmps107
        go_wp2
        go_ret
        exact ⟨rfl, below_alloc _ _⟩
    · have e : rightB ⟨false, its, kds⟩ = false := by simp [rightB, len_some (Nat.pos_of_ne_zero h0)]
      rw [e]
      have hp : 0 < its.length := Nat.pos_of_ne_zero h0
      clear e hn h0
      by_cases h1 : 0 < kds.length
      · have e0 : ((kds.length : Int) == 0) = false := beq_eq_false_iff_ne.2 (by omega)
        clear h1
        go_enter Tryz.func107, Tryz.ntmps107
        go_wp2
        go_ret
        exact ⟨rfl, below_alloc _ _⟩
      · have e0 : ((kds.length : Int) == 0) = true := beq_iff_eq.2 (by omega)
        clear h1
        go_enter Tryz.func107, Tryz.ntmps107
        go_wp2
        go_ret
        exact ⟨rfl, below_alloc _ _⟩

theorem refBytes_any (n : Nd) (ai ak : Option Addr) (ci ck : Nat) (w : World) (hn : Has w n ai ak) (hr : rightB n = true) (hil : n.its.length ≤ 1100) (hkl : n.kds.length ≤ 1100) :
    Calls Tryz.prog 64 #[.agg #[.bool n.leaf, .slice ai n.its.length ci, .slice ak n.kds.length ck]] w fun e w' => e = .returned (.string (strOf (ndL n))) ∧ Below w.heap.size w w' := by
  obtain ⟨L, its, kds⟩ := n
  cases L with
  | true =>
    obtain ⟨rfl, _, h⟩ := right_leaf hr
    exact refBytesI ai ak ci ck its w hn.1 hil (rise_all _ _ h)
  | false =>
    obtain ⟨rfl, _, h⟩ := right_kids hr
    exact refBytesK ai ak ci ck kds w hn.2 hkl (rise_all _ _ h)

set_option maxRecDepth 10000 in
set_option maxHeartbeats 1000000 in
theorem refCheck_any (n : Nd) (ai ak : Option Addr) (ci ck : Nat) (w : World) (hn : Has w n ai ak) (hil : n.its.length ≤ 1100) (hkl : n.kds.length ≤ 1100) :
    Calls Tryz.prog 63 #[.agg #[.bool n.leaf, .slice ai n.its.length ci, .slice ak n.kds.length ck]] w fun e w' => e = .returned (.int .i64 (checkN n : Int)) ∧ Below w.heap.size w w' := by
  have hb0 := below_alloc w (.cells #[.bool n.leaf, .slice ai n.its.length ci, .slice ak n.kds.length ck] 38)
  have HB := hide hb0
  have q0 : (w.alloc (.cells #[.bool n.leaf, .slice ai n.its.length ci, .slice ak n.kds.length ck] 38)).cell? ⟨w.heap.size, 0, none⟩ = some (.bool n.leaf) := by simp
  have q1 : (w.alloc (.cells #[.bool n.leaf, .slice ai n.its.length ci, .slice ak n.kds.length ck] 38)).cell? ⟨w.heap.size, 1, none⟩ = some (.slice ai n.its.length ci) := by simp
  have q2 : (w.alloc (.cells #[.bool n.leaf, .slice ai n.its.length ci, .slice ak n.kds.length ck] 38)).cell? ⟨w.heap.size, 2, none⟩ = some (.slice ak n.kds.length ck) := by simp
  have HQ := hide (And.intro q0 (And.intro q1 q2))
  have HR := hide (refRight_any n ai ak ci ck _ (hn.grow hb0) (by omega) (by omega))
  by_cases hr : rightB n = true
  · have e : checkN n = if 1007 < (strOf (ndL n)).size then 61 else 0 := by unfold checkN; rw [if_pos hr, strOf_size]
    rw [e]
    rw [hr] at HR
    have HC := hide (fun W (hW : Below w.heap.size w W) => refBytes_any n ai ak ci ck W (hn.grow hW) hr hil hkl)
    clear q0 q1 q2 hr e hn hb0
    generalize strOf (ndL n) = T at *
    by_cases hbig : 1007 < T.size
    · rw [if_pos hbig]
      go_enter Tryz.func63, Tryz.ntmps63
      go_wp2_with (first
        | (go_at_call 107; refine (unhide HR).mono ?_; rintro x w2 ⟨rfl, hb2⟩; have z0 := cell_keep (unhide HQ).1 hb2; have z1 := cell_keep (unhide HQ).2.1 hb2; have z2 := cell_keep (unhide HQ).2.2 hb2; have HB2 := hide (below_then (unhide HB) hb2); clear hb2)
        | (go_at_call 64; refine (unhide HC _ (unhide HB2)).mono ?_; rintro x w3 ⟨rfl, hb3⟩))
      go_ret
      exact ⟨rfl, below_then (unhide HB2) hb3⟩
    · rw [if_neg hbig]
      go_enter Tryz.func63, Tryz.ntmps63
      go_wp2_with (first
        | (go_at_call 107; refine (unhide HR).mono ?_; rintro x w2 ⟨rfl, hb2⟩; have z0 := cell_keep (unhide HQ).1 hb2; have z1 := cell_keep (unhide HQ).2.1 hb2; have z2 := cell_keep (unhide HQ).2.2 hb2; have HB2 := hide (below_then (unhide HB) hb2); clear hb2)
        | (go_at_call 64; refine (unhide HC _ (unhide HB2)).mono ?_; rintro x w3 ⟨rfl, hb3⟩))
      go_ret
      exact ⟨rfl, below_then (unhide HB2) hb3⟩
  · have hr : rightB n = false := by simpa using hr
    have e : checkN n = 60 := by unfold checkN; rw [hr]; rfl
    rw [e]
    rw [hr] at HR
    clear q0 q1 q2 hr e hn hb0
    go_enter Tryz.func63, Tryz.ntmps63
    go_wp2_with (go_at_call 107; refine (unhide HR).mono ?_; rintro x w2 ⟨rfl, hb2⟩)
    go_ret
    exact ⟨rfl, below_then (unhide HB) hb2⟩

set_option maxRecDepth 10000 in
set_option maxHeartbeats 1000000 in
theorem refEncode_any (n : Nd) (ai ak : Option Addr) (ci ck : Nat) (w : World) (hn : Has w n ai ak) (hil : n.its.length ≤ 1100) (hkl : n.kds.length ≤ 1100) :
    Calls Tryz.prog 30 #[.agg #[.bool n.leaf, .slice ai n.its.length ci, .slice ak n.kds.length ck]] w fun e w' => e = .returned (.tuple #[.string (encodeN n).1, .int .i64 ((encodeN n).2 : Int)]) ∧ Below w.heap.size w w' := by
  have hb0 := below_alloc w (.cells #[.bool n.leaf, .slice ai n.its.length ci, .slice ak n.kds.length ck] 38)
  have HB := hide hb0
  have q0 : (w.alloc (.cells #[.bool n.leaf, .slice ai n.its.length ci, .slice ak n.kds.length ck] 38)).cell? ⟨w.heap.size, 0, none⟩ = some (.bool n.leaf) := by simp
  have q1 : (w.alloc (.cells #[.bool n.leaf, .slice ai n.its.length ci, .slice ak n.kds.length ck] 38)).cell? ⟨w.heap.size, 1, none⟩ = some (.slice ai n.its.length ci) := by simp
  have q2 : (w.alloc (.cells #[.bool n.leaf, .slice ai n.its.length ci, .slice ak n.kds.length ck] 38)).cell? ⟨w.heap.size, 2, none⟩ = some (.slice ak n.kds.length ck) := by simp
  have HQ := hide (And.intro q0 (And.intro q1 q2))
  have HR := hide (refCheck_any n ai ak ci ck _ (hn.grow hb0) hil hkl)
  by_cases h0 : checkN n = 0
  · have e : encodeN n = (strOf (ndL n), 0) := by unfold encodeN; rw [if_pos h0]
    rw [e]
    have HC := hide (fun W (hW : Below w.heap.size w W) => refBytes_any n ai ak ci ck W (hn.grow hW) (checkN_right h0) hil hkl)
    rw [h0] at HR
    clear q0 q1 q2 h0 e hn hb0
    go_enter Tryz.func30, Tryz.ntmps30
    go_wp2_with (first
      | (go_at_call 63; refine (unhide HR).mono ?_; rintro x w2 ⟨rfl, hb2⟩; have z0 := cell_keep (unhide HQ).1 hb2; have z1 := cell_keep (unhide HQ).2.1 hb2; have z2 := cell_keep (unhide HQ).2.2 hb2; have HB2 := hide (below_then (unhide HB) hb2); clear hb2)
      | (go_at_call 64; refine (unhide HC _ (unhide HB2)).mono ?_; rintro x w3 ⟨rfl, hb3⟩))
    go_ret2
    exact ⟨rfl, below_then (unhide HB2) hb3⟩
  · have e : encodeN n = (⟨#[]⟩, checkN n) := by unfold encodeN; rw [if_neg h0]
    rw [e]
    generalize checkN n = k at *
    have f0 : ((k : Int) == 0) = false := beq_eq_false_iff_ne.2 (by omega)
    have f1 : ((k : Int) != 0) = true := bne_iff_ne.2 (by omega)
    clear q0 q1 q2 h0 e hn hb0
    go_enter Tryz.func30, Tryz.ntmps30
    go_wp2_with (go_at_call 63; refine (unhide HR).mono ?_; rintro x w2 ⟨rfl, hb2⟩)
    go_ret2
    exact ⟨rfl, below_then (unhide HB) hb2⟩
end Go.Proofs.YtdelobaiicoogaaGreatDoor.L6

/- Decode, as the document answers. -/
namespace Go.Proofs.YtdelobaiicoogaaGreatDoor.L6
open Go.ChangeShapes Go.WideShapes Go.ChangeAt Go.RowKit

set_option maxRecDepth 10000 in
set_option maxHeartbeats 4000000 in
theorem refDecode_bad (S : ByteArray) (w : World) (hS : S.size ≤ 4096) (h : 1007 < S.size ∨ ¬ ((byteR S 0).1 = 1 ∨ (byteR S 0).1 = 2) ∨ 1007 < (shortR (byteR S 0).2.1 (byteR S 0).2.2).1) :
    Calls Tryz.prog 143 #[.string S] w fun x w' => DecSaid (nd0, 60) w x w' := by
  have hle := byteR_le S 0
  have hle2 := shortR_le (byteR S 0).2.1 (byteR S 0).2.2
  have hcl := shortR_lt (byteR S 0).2.1 (byteR S 0).2.2
  have HC1 := hide (fun W G (hW : Rm W G S 0) => refByte_any G 0 S W hW (by omega))
  have HC2 := hide (fun W G (hW : Rm W G (byteR S 0).2.1 (byteR S 0).2.2) => refShortR_any G _ _ W hW (by omega))
  have hb0 := below_alloc w (.cells #[.bool false, .slice none 0 0, .slice none 0 0] 38)
  have hb1 := below_alloc (w.alloc (.cells #[.bool false, .slice none 0 0, .slice none 0 0] 38)) (.cells #[.string S, .int .i64 0] 290)
  have hsz : (w.alloc (.cells #[.bool false, .slice none 0 0, .slice none 0 0] 38)).heap.size = w.heap.size + 1 := by simp
  have hrm := Rm.new (w.alloc (.cells #[.bool false, .slice none 0 0, .slice none 0 0] 38)) S
  rw [hsz] at hrm
  have HP := hide ((Nblk.new w false none none 0 0 0 0).below hb1)
  have HR := hide hrm
  have HB := hide (below_then hb0 hb1)
  clear hb0 hb1 hsz hrm
  go_enter Tryz.func143, Tryz.ntmps143
  go_wp2_with fail
  obtain ⟨p, hp⟩ : ∃ y, y = w.heap.size := ⟨_, rfl⟩
  rw [← hp] at HP HR ⊢
  have hpw : w.heap.size ≤ p := Nat.le_of_eq hp.symm
  clear hp
  obtain ⟨g, hg⟩ : ∃ y, y = p + 1 := ⟨_, rfl⟩
  rw [← hg] at HR ⊢
  have hgw : w.heap.size ≤ g := by omega
  have hpg : p ≠ g := by omega
  clear hg
  generalize (w.alloc (.cells #[.bool false, .slice none 0 0, .slice none 0 0] 38)).alloc (.cells #[.string S, .int .i64 0] 290) = w1 at *
  refine (unhide HC1 _ g (unhide HR)).mono ?_
  rintro x w2 ⟨rfl, ht⟩
  have HP := hide ((unhide HP).toldM ht hpg)
  have HR := hide ht.2
  have HB := hide ((unhide HB).grown ht.1 (unhide HB).size (fun k hk => by injection hk with hk; omega))
  clear ht HC1
  generalize byteR S 0 = T at *
  go_wp2_with fail
  refine (unhide HC2 _ g (unhide HR)).mono ?_
  rintro x w3 ⟨rfl, ht⟩
  have HP := hide ((unhide HP).toldM ht hpg)
  have HR := hide ht.2
  have HB := hide ((unhide HB).grown ht.1 (unhide HB).size (fun k hk => by injection hk with hk; omega))
  clear ht HC2
  generalize shortR T.2.1 T.2.2 = U at *
  have c0 := (unhide HP).cell0
  have c1 := (unhide HP).cell1
  have c2 := (unhide HP).cell2
  have f0 := (unhide HP).free 0
  have f1 := (unhide HP).free 1
  have f2 := (unhide HP).free 2
  by_cases k1 : 1007 < S.size
  · clear h
    go_wp2
    refine bodyPost_ret (v := .tuple #[.agg #[.bool false, .slice none 0 0, .slice none 0 0], .int .i64 60]) ?_ rfl (dec_zero w _ _ rfl (below_store (below_store (below_store (unhide HB) p 0 _ hpw) p 1 _ hpw) p 2 _ hpw))
    rw [results_cell_tmp rfl]
    go_simp
  · by_cases k2 : (T.1 = 1 ∨ T.1 = 2)
    · have k3 : 1007 < U.1 := by omega
      have k3' : (1007 : Int) < (U.1 : Int) := by omega
      rcases k2 with k2 | k2
      · have g1 : ((T.1 : Int) == 1) = true := beq_iff_eq.2 (by omega)
        have g2 : ((T.1 : Int) != 1) = false := by rw [bne, g1]; rfl
        clear h k2 k3
        go_wp2
        refine bodyPost_ret (v := .tuple #[.agg #[.bool false, .slice none 0 0, .slice none 0 0], .int .i64 60]) ?_ rfl (dec_zero w _ _ rfl (below_store (below_store (below_store (unhide HB) p 0 _ hpw) p 1 _ hpw) p 2 _ hpw))
        rw [results_cell_tmp rfl]
        go_simp
      · have g1 : ((T.1 : Int) == 1) = false := beq_eq_false_iff_ne.2 (by omega)
        have g2 : ((T.1 : Int) != 1) = true := by rw [bne, g1]; rfl
        have g3 : ((T.1 : Int) == 2) = true := beq_iff_eq.2 (by omega)
        have g4 : ((T.1 : Int) != 2) = false := by rw [bne, g3]; rfl
        clear h k2 k3
        go_wp2
        refine bodyPost_ret (v := .tuple #[.agg #[.bool false, .slice none 0 0, .slice none 0 0], .int .i64 60]) ?_ rfl (dec_zero w _ _ rfl (below_store (below_store (below_store (unhide HB) p 0 _ hpw) p 1 _ hpw) p 2 _ hpw))
        rw [results_cell_tmp rfl]
        go_simp
    · have g1 : ((T.1 : Int) == 1) = false := beq_eq_false_iff_ne.2 (by omega)
      have g2 : ((T.1 : Int) != 1) = true := by rw [bne, g1]; rfl
      have g3 : ((T.1 : Int) == 2) = false := beq_eq_false_iff_ne.2 (by omega)
      have g4 : ((T.1 : Int) != 2) = true := by rw [bne, g3]; rfl
      clear h k2
      go_wp2
      refine bodyPost_ret (v := .tuple #[.agg #[.bool false, .slice none 0 0, .slice none 0 0], .int .i64 60]) ?_ rfl (dec_zero w _ _ rfl (below_store (below_store (below_store (unhide HB) p 0 _ hpw) p 1 _ hpw) p 2 _ hpw))
      rw [results_cell_tmp rfl]
      go_simp
end Go.Proofs.YtdelobaiicoogaaGreatDoor.L6
