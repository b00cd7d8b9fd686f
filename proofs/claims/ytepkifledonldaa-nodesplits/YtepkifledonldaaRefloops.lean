/- A node's bytes, as the document has them: the loops. -/
import Derived.Test.YtepkifledonldaaRefbytes
import Derived.Test.YtepkifledonldaaCode
namespace Go.Proofs.Ytepkifledonldaa
open Go.ChangeShapes Go.WideShapes Go.ChangeAt Go.RowKit

theorem str_eq {s t : ByteArray} (h : s = t) : Value.string s = .string t := by rw [h]

set_option maxRecDepth 10000 in
set_option maxHeartbeats 4000000 in
theorem refBytesI (ai ak : Option Addr) (ci ck : Nat) (its : List It) (w : World) (hr : Row Value.string w ai its) (hl : its.length ≤ 1100) (hm : ∀ x ∈ its, mayI x = true) :
    Calls Try.prog 24 #[.agg #[.bool true, .slice ai its.length ci, .slice ak 0 ck]] w fun e w' => e = .returned (.string (strOf (1 :: (Pk.shL its.length ++ its.flatMap itL)))) ∧ Below w.heap.size w w' := by
  have hb0 := below_alloc w (.cells #[.bool true, .slice ai its.length ci, .slice ak 0 ck] 25)
  have HR := hide (hr.grow hb0)
  have HBW := hide hb0
  have HM := hide hm
  have HFL : Hid ((its.flatMap itL).length ≤ 500000) := Nat.le_trans (flat_le its (fun x hx => itL_le (hm x hx))) (by omega)
  have hw : IntKind.u64.wrap (its.length : Int) = (its.length : Int) := by rw [IntKind.wrap_u64]; omega
  have hS0 := fun W => refShort_any 0 W (by omega)
  have HS0 := hide hS0
  have hSL := fun W => refShort_any (its.length : Int) W (by omega)
  rw [Int.toNat_natCast] at hSL
  have HSL := hide hSL
  have hz0 : (strOf (Pk.shL (0 : Int).toNat)).size ≤ 10 := by rw [strOf_size]; exact Pk.shL_le _
  have hz1 : (strOf (Pk.shL its.length)).size ≤ 10 := by rw [strOf_size]; exact Pk.shL_le _
  have HE0 : Hid (⟨#[1]⟩ ++ strOf (Pk.shL its.length) = strOf (1 :: Pk.shL its.length)) := (strOf_append [1] _).symm
  generalize strOf (Pk.shL (0 : Int).toNat) = Z at *
  generalize strOf (Pk.shL its.length) = ZL at *
  have q0 : (w.alloc (.cells #[.bool true, .slice ai its.length ci, .slice ak 0 ck] 25)).cell? ⟨w.heap.size, 0, none⟩ = some (.bool true) := by simp
  have q1 : (w.alloc (.cells #[.bool true, .slice ai its.length ci, .slice ak 0 ck] 25)).cell? ⟨w.heap.size, 1, none⟩ = some (.slice ai its.length ci) := by simp
  have q2 : (w.alloc (.cells #[.bool true, .slice ai its.length ci, .slice ak 0 ck] 25)).cell? ⟨w.heap.size, 2, none⟩ = some (.slice ak 0 ck) := by simp
  have HBD := hide (Below.refl (w.alloc (.cells #[.bool true, .slice ai its.length ci, .slice ak 0 ck] 25)).heap.size (w.alloc (.cells #[.bool true, .slice ai its.length ci, .slice ak 0 ck] 25)))
  clear hr hb0 hm hS0 hSL
  go_enter Try.func24, Try.ntmps24
  go_wp2_with fail
  obtain ⟨p, hp⟩ : ∃ y, y = w.heap.size := ⟨_, rfl⟩
  rw [← hp] at q0 q1 q2 ⊢
  generalize w.alloc (.cells #[.bool true, .slice ai its.length ci, .slice ak 0 ck] 25) = w0 at *
  clear hp
  go_wp2_with (first
    | (go_at_call 46; refine (unhide HS0 _).mono ?_; rintro e w2 ⟨rfl, hb⟩; have z0 := cell_keep q0 hb; have z1 := cell_keep q1 hb; have z2 := cell_keep q2 hb; have HB1 := hide (below_then (unhide HBD) hb); clear hb HS0 q0 q1 q2)
    | (go_at_call 46; refine (unhide HSL _).mono ?_; rintro e w3 ⟨rfl, hb⟩; have q1 := cell_keep z1 hb; have q2 := cell_keep z2 hb; have HB0 := hide (below_then (unhide HB1) hb); clear hb z0 z1 z2))
  go_loopw [3, 4] (fun u t wr => ∃ k : Nat, k ≤ its.length ∧ t = .int .i64 k ∧ u = .string (strOf (1 :: (Pk.shL its.length ++ (its.take k).flatMap itL))) ∧ wr.cell? ⟨p, 1, none⟩ = some (.slice ai its.length ci) ∧ wr.cell? ⟨p, 2, none⟩ = some (.slice ak 0 ck) ∧ Below w0.heap.size w0 wr) (fun _ t _ => its.length - (intOf t).toNat)
  case atStart => exact ⟨0, Nat.zero_le _, rfl, by rw [List.take_zero, List.flatMap_nil, List.append_nil]; exact str_eq (unhide HE0), q1, q2, unhide HB0⟩
  case round =>
    obtain ⟨k, hk, rfl, rfl, q1, q2, hbel⟩ := hrel
    have HBel := hide hbel
    clear hbel
    by_cases hlt : k < its.length
    · obtain ⟨b, off, rfl, hr⟩ := (unhide HR).at hlt
      obtain ⟨⟨key, val⟩, hx⟩ := get_some hlt
      have c0 := cell_keep_of (unhide HBel) (hr k _ hx).1
      have c1 := cell_keep_of (unhide HBel) (hr k _ hx).2
      simp only at c0 c1
      have hm := (unhide HM) _ (List.mem_of_getElem? hx)
      have hil : (itL (key, val)).length ≤ 452 := itL_le hm
      simp [mayI] at hm
      have HST : Hid (strOf (1 :: (Pk.shL its.length ++ (its.take k).flatMap itL)) ++ strOf (itL (key, val)) = strOf (1 :: (Pk.shL its.length ++ (its.take (k + 1)).flatMap itL))) := by
        show _ = _
        rw [take_flat itL hx, ← strOf_append]
        congr 1
        simp
      have hS : (strOf (1 :: (Pk.shL its.length ++ (its.take k).flatMap itL))).size ≤ 900000 := by
        rw [strOf_size, List.length_cons, List.length_append]
        have h1 := take_flat_le itL its k
        have h2 := unhide HFL
        have h3 := Pk.shL_le its.length
        omega
      have hI : (strOf (itL (key, val))).size ≤ 452 := by rw [strOf_size]; exact hil
      have HC := hide (fun W => refItem_any key val W (by omega) (by omega))
      generalize strOf (1 :: (Pk.shL its.length ++ (its.take k).flatMap itL)) = S at *
      generalize strOf (itL (key, val)) = V at *
      clear hx hr HR hm hil
      go_wp2_with (go_at_call 47; refine (unhide HC _).mono ?_; rintro e w3 ⟨rfl, hb⟩; have HB3 := hide hb; clear hb)
      go_roundw
      case rel => exact ⟨k + 1, by omega, by go_num, str_eq (unhide HST), cell_keep q1 (unhide HB3), cell_keep q2 (unhide HB3), below_then (unhide HBel) (unhide HB3)⟩
      case measure => simp [intOf]; omega
    · obtain rfl : k = its.length := by omega
      rw [List.take_length]
      go_wp2
      go_loop [3, 5] (fun u t => t = .int .i64 0 ∧ u = .string (strOf (1 :: (Pk.shL its.length ++ its.flatMap itL)))) (fun _ _ => 0)
      case atStart => exact ⟨rfl, rfl⟩
      case round =>
        obtain ⟨rfl, rfl⟩ := hrel
        go_wp2
        go_ret
        exact ⟨rfl, below_then (unhide HBW) (unhide HBel)⟩

set_option maxRecDepth 10000 in
set_option maxHeartbeats 4000000 in
theorem refBytesK (ai ak : Option Addr) (ci ck : Nat) (kds : List Kd) (w : World) (hr : Row kv w ak kds) (hl : kds.length ≤ 1100) (hm : ∀ x ∈ kds, mayK x = true) :
    Calls Try.prog 24 #[.agg #[.bool false, .slice ai 0 ci, .slice ak kds.length ck]] w fun e w' => e = .returned (.string (strOf (2 :: (Pk.shL kds.length ++ kds.flatMap kdL)))) ∧ Below w.heap.size w w' := by
  have hb0 := below_alloc w (.cells #[.bool false, .slice ai 0 ci, .slice ak kds.length ck] 25)
  have HR := hide (hr.grow hb0)
  have HBW := hide hb0
  have HM := hide hm
  have HFL : Hid ((kds.flatMap kdL).length ≤ 500000) := Nat.le_trans (flat_le kds (fun x hx => kdL_le (hm x hx))) (by omega)
  have hw : IntKind.u64.wrap (kds.length : Int) = (kds.length : Int) := by rw [IntKind.wrap_u64]; omega
  have hS0 := fun W => refShort_any 0 W (by omega)
  have HS0 := hide hS0
  have hSL := fun W => refShort_any (kds.length : Int) W (by omega)
  rw [Int.toNat_natCast] at hSL
  have HSL := hide hSL
  have hz0 : (strOf (Pk.shL (0 : Int).toNat)).size ≤ 10 := by rw [strOf_size]; exact Pk.shL_le _
  have hz1 : (strOf (Pk.shL kds.length)).size ≤ 10 := by rw [strOf_size]; exact Pk.shL_le _
  have HE0 : Hid (⟨#[2]⟩ ++ strOf (Pk.shL kds.length) = strOf (2 :: Pk.shL kds.length)) := (strOf_append [2] _).symm
  generalize strOf (Pk.shL (0 : Int).toNat) = Z at *
  generalize strOf (Pk.shL kds.length) = ZL at *
  have q0 : (w.alloc (.cells #[.bool false, .slice ai 0 ci, .slice ak kds.length ck] 25)).cell? ⟨w.heap.size, 0, none⟩ = some (.bool false) := by simp
  have q1 : (w.alloc (.cells #[.bool false, .slice ai 0 ci, .slice ak kds.length ck] 25)).cell? ⟨w.heap.size, 2, none⟩ = some (.slice ak kds.length ck) := by simp
  have q2 : (w.alloc (.cells #[.bool false, .slice ai 0 ci, .slice ak kds.length ck] 25)).cell? ⟨w.heap.size, 1, none⟩ = some (.slice ai 0 ci) := by simp
  have HBD := hide (Below.refl (w.alloc (.cells #[.bool false, .slice ai 0 ci, .slice ak kds.length ck] 25)).heap.size (w.alloc (.cells #[.bool false, .slice ai 0 ci, .slice ak kds.length ck] 25)))
  clear hr hb0 hm hS0 hSL
  go_enter Try.func24, Try.ntmps24
  go_wp2_with fail
  obtain ⟨p, hp⟩ : ∃ y, y = w.heap.size := ⟨_, rfl⟩
  rw [← hp] at q0 q1 q2 ⊢
  generalize w.alloc (.cells #[.bool false, .slice ai 0 ci, .slice ak kds.length ck] 25) = w0 at *
  clear hp
  go_wp2_with (go_at_call 46; refine (unhide HSL _).mono ?_; rintro e w2 ⟨rfl, hb⟩; have q0 := cell_keep q0 hb; have q1 := cell_keep q1 hb; have q2 := cell_keep q2 hb; have HB0 := hide (below_then (unhide HBD) hb); clear hb)
  go_loop [3, 4] (fun u t => t = .int .i64 0 ∧ u = .string (⟨#[2]⟩ ++ ZL)) (fun _ _ => 0)
  case atStart => exact ⟨rfl, rfl⟩
  case round =>
    obtain ⟨rfl, rfl⟩ := hrel
    go_wp2
    go_loopw [3, 5] (fun u t wr => ∃ k : Nat, k ≤ kds.length ∧ t = .int .i64 k ∧ u = .string (strOf (2 :: (Pk.shL kds.length ++ (kds.take k).flatMap kdL))) ∧ wr.cell? ⟨p, 2, none⟩ = some (.slice ak kds.length ck) ∧ wr.cell? ⟨p, 1, none⟩ = some (.slice ai 0 ci) ∧ Below w0.heap.size w0 wr) (fun _ t _ => kds.length - (intOf t).toNat)
    case atStart => exact ⟨0, Nat.zero_le _, rfl, by rw [List.take_zero, List.flatMap_nil, List.append_nil]; exact str_eq (unhide HE0), q1, q2, unhide HB0⟩
    case round =>
      obtain ⟨k, hk, rfl, rfl, q1, q2, hbel⟩ := hrel
      have HBel := hide hbel
      clear hbel
      by_cases hlt : k < kds.length
      · obtain ⟨b, off, rfl, hr⟩ := (unhide HR).at hlt
        obtain ⟨⟨key, val⟩, hx⟩ := get_some hlt
        have c0 := cell_keep_of (unhide HBel) (hr k _ hx).1
        have c1 := cell_keep_of (unhide HBel) (hr k _ hx).2
        simp only at c0 c1
        have hm := (unhide HM) _ (List.mem_of_getElem? hx)
        have hil : (kdL (key, val)).length ≤ 452 := kdL_le hm
        simp [mayK] at hm
        have HST : Hid (strOf (2 :: (Pk.shL kds.length ++ (kds.take k).flatMap kdL)) ++ strOf (kdL (key, val)) = strOf (2 :: (Pk.shL kds.length ++ (kds.take (k + 1)).flatMap kdL))) := by
          show _ = _
          rw [take_flat kdL hx, ← strOf_append]
          congr 1
          simp
        have hS : (strOf (2 :: (Pk.shL kds.length ++ (kds.take k).flatMap kdL))).size ≤ 900000 := by
          rw [strOf_size, List.length_cons, List.length_append]
          have h1 := take_flat_le kdL kds k
          have h2 := unhide HFL
          have h3 := Pk.shL_le kds.length
          omega
        have hI : (strOf (kdL (key, val))).size ≤ 452 := by rw [strOf_size]; exact hil
        have HC := hide (fun W => refKid_any key val W (by omega) (by omega))
        generalize strOf (2 :: (Pk.shL kds.length ++ (kds.take k).flatMap kdL)) = S at *
        generalize strOf (kdL (key, val)) = V at *
        clear hx hr HR hm hil
        go_wp2_with (go_at_call 48; refine (unhide HC _).mono ?_; rintro e w3 ⟨rfl, hb⟩; have HB3 := hide hb; clear hb)
        go_roundw
        case rel => exact ⟨k + 1, by omega, by go_num, str_eq (unhide HST), cell_keep q1 (unhide HB3), cell_keep q2 (unhide HB3), below_then (unhide HBel) (unhide HB3)⟩
        case measure => simp [intOf]; omega
      · obtain rfl : k = kds.length := by omega
        rw [List.take_length]
        go_wp2
        go_ret
        exact ⟨rfl, below_then (unhide HBW) (unhide HBel)⟩
end Go.Proofs.Ytepkifledonldaa
