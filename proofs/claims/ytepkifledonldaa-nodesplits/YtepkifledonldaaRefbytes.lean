/- A node's bytes, as the document has them. -/
import Derived.Test.YtepkifledonldaaEach
import Derived.Test.YtepkifledonldaaRefrightb
import Derived.Test.YtepkifledonldaaShort
namespace Go.Proofs.Ytepkifledonldaa
open Go.ChangeShapes Go.WideShapes Go.ChangeAt Go.RowKit

theorem ret_str' {s t : ByteArray} (h : s = t) : Ending.returned (.string s) = .returned (.string t) := by rw [h]

set_option maxRecDepth 10000 in
set_option maxHeartbeats 2000000 in
theorem refItem_any (k v : ByteArray) (w : World) (hk : k.size ≤ 400000) (hv : v.size ≤ 400000) :
    Calls Try.prog 47 #[.agg #[.string k, .string v]] w fun e w' => e = .returned (.string (strOf (itL (k, v)))) ∧ Below w.heap.size w w' := by
  have T1 := hide (fun W => refText_any k W (by omega))
  have T2 := hide (fun W => refText_any v W (by omega))
  rw [strOf_txL] at T1 T2
  have hz1 := strOf_size (txL k)
  have hz2 := strOf_size (txL v)
  have hl1 := txL_length k
  have hl2 := txL_length v
  have hadd := add_run' (strOf (txL k)) (strOf (txL v)) (by omega)
  have HE : Hid (strOf (txL k) ++ strOf (txL v) = strOf (itL (k, v))) := (strOf_append _ _).symm
  have q0 : (w.alloc (.cells #[.string k, .string v] 47)).cell? ⟨w.heap.size, 0, none⟩ = some (.string k) := by simp
  have q1 : (w.alloc (.cells #[.string k, .string v] 47)).cell? ⟨w.heap.size, 1, none⟩ = some (.string v) := by simp
  have HB := hide (below_alloc w (.cells #[.string k, .string v] 47))
  clear hz1 hz2 hl1 hl2
  go_enter Try.func47, Try.ntmps47
  go_wp2_with fail
  generalize strOf (txL k) = K at *
  generalize strOf (txL v) = V at *
  obtain ⟨p, hp'⟩ : ∃ y, y = w.heap.size := ⟨_, rfl⟩
  rw [← hp'] at q0 q1 ⊢
  generalize w.alloc (.cells #[.string k, .string v] 47) = w1 at *
  clear hp'
  have H0 : Hid (Below w.heap.size w w1.drew ∧ w1.drew.cell? ⟨p, 0, none⟩ = some (.string k) ∧ w1.drew.cell? ⟨p, 1, none⟩ = some (.string v)) := ⟨(unhide HB).drew, q0, q1⟩
  clear q0 q1
  go_region_held3 (fun w' => Below w.heap.size w w' ∧ w'.cell? ⟨p, 0, none⟩ = some (.string k) ∧ w'.cell? ⟨p, 1, none⟩ = some (.string v))
    (first | assumption | exact unhide H0)
    (first
      | (go_at_call 66; refine (unhide T1 _).mono ?_; rintro e w2 ⟨rfl, hb⟩; have H1 : Below w.heap.size w w2 ∧ w2.cell? ⟨p, 0, none⟩ = some (.string k) ∧ w2.cell? ⟨p, 1, none⟩ = some (.string v) := ⟨below_then (unhide H0).1 hb, cell_keep (unhide H0).2.1 hb, cell_keep (unhide H0).2.2 hb⟩; clear hb T1)
      | (go_at_call 66; refine (unhide T2 _).mono ?_; rintro e w3 ⟨rfl, hb⟩; have H2 : Below w.heap.size w w3 ∧ w3.cell? ⟨p, 0, none⟩ = some (.string k) ∧ w3.cell? ⟨p, 1, none⟩ = some (.string v) := ⟨below_then H1.1 hb, cell_keep H1.2.1 hb, cell_keep H1.2.2 hb⟩; clear hb))
  have HF := hide H2.1
  clear H1 H2 T2 hadd
  go_wp2
  go_ret
  exact ⟨ret_str' (unhide HE), unhide HF⟩

set_option maxRecDepth 10000 in
set_option maxHeartbeats 2000000 in
theorem refKid_any (k : ByteArray) (v : Int) (w : World) (hk : k.size ≤ 400000) (hv : 0 ≤ v ∧ v < 9223372036854775808) :
    Calls Try.prog 48 #[.agg #[.string k, .int .i64 v]] w fun e w' => e = .returned (.string (strOf (kdL (k, v)))) ∧ Below w.heap.size w w' := by
  have hw : IntKind.u64.wrap v = v := by rw [IntKind.wrap_u64]; omega
  have T1 := hide (fun W => refText_any k W (by omega))
  have T2 := hide (fun W => refShort_any v W (by omega))
  rw [strOf_txL] at T1
  have hz1 := strOf_size (txL k)
  have hz2 := strOf_size (Pk.shL v.toNat)
  have hl1 := txL_length k
  have hl2 := Pk.shL_le v.toNat
  have hadd := add_run' (strOf (txL k)) (strOf (Pk.shL v.toNat)) (by omega)
  have HE : Hid (strOf (txL k) ++ strOf (Pk.shL v.toNat) = strOf (kdL (k, v))) := (strOf_append _ _).symm
  have q0 : (w.alloc (.cells #[.string k, .int .i64 v] 49)).cell? ⟨w.heap.size, 0, none⟩ = some (.string k) := by simp
  have q1 : (w.alloc (.cells #[.string k, .int .i64 v] 49)).cell? ⟨w.heap.size, 1, none⟩ = some (.int .i64 v) := by simp
  have HB := hide (below_alloc w (.cells #[.string k, .int .i64 v] 49))
  clear hz1 hz2 hl1 hl2
  go_enter Try.func48, Try.ntmps48
  go_wp2_with fail
  generalize strOf (txL k) = K at *
  generalize strOf (Pk.shL v.toNat) = V at *
  obtain ⟨p, hp'⟩ : ∃ y, y = w.heap.size := ⟨_, rfl⟩
  rw [← hp'] at q0 q1 ⊢
  generalize w.alloc (.cells #[.string k, .int .i64 v] 49) = w1 at *
  clear hp'
  have H0 : Hid (Below w.heap.size w w1.drew ∧ w1.drew.cell? ⟨p, 0, none⟩ = some (.string k) ∧ w1.drew.cell? ⟨p, 1, none⟩ = some (.int .i64 v)) := ⟨(unhide HB).drew, q0, q1⟩
  clear q0 q1
  go_region_held3 (fun w' => Below w.heap.size w w' ∧ w'.cell? ⟨p, 0, none⟩ = some (.string k) ∧ w'.cell? ⟨p, 1, none⟩ = some (.int .i64 v))
    (first | assumption | exact unhide H0)
    (first
      | (go_at_call 66; refine (unhide T1 _).mono ?_; rintro e w2 ⟨rfl, hb⟩; have H1 : Below w.heap.size w w2 ∧ w2.cell? ⟨p, 0, none⟩ = some (.string k) ∧ w2.cell? ⟨p, 1, none⟩ = some (.int .i64 v) := ⟨below_then (unhide H0).1 hb, cell_keep (unhide H0).2.1 hb, cell_keep (unhide H0).2.2 hb⟩; clear hb T1)
      | (go_at_call 46; refine (unhide T2 _).mono ?_; rintro e w3 ⟨rfl, hb⟩; have H2 : Below w.heap.size w w3 ∧ w3.cell? ⟨p, 0, none⟩ = some (.string k) ∧ w3.cell? ⟨p, 1, none⟩ = some (.int .i64 v) := ⟨below_then H1.1 hb, cell_keep H1.2.1 hb, cell_keep H1.2.2 hb⟩; clear hb))
  have HF := hide H2.1
  clear H1 H2 T2 hadd
  go_wp2
  go_ret
  exact ⟨ret_str' (unhide HE), unhide HF⟩
end Go.Proofs.Ytepkifledonldaa
