/- Size, Check, Encode, as the program answers. -/
import Derived.Test.YtepkifledonldaaCode
namespace Go.Proofs.Ytepkifledonldaa
open Go.ChangeShapes Go.WideShapes Go.ChangeAt Go.RowKit

theorem ndL_pos (n : Nd) : 0 < (ndL n).length := by unfold ndL; split <;> simp
theorem ndL_le (n : Nd) (hr : rightB n = true) (hil : n.its.length ≤ 1100) (hkl : n.kds.length ≤ 1100) : (ndL n).length ≤ 900000 := by
  obtain ⟨L, its, kds⟩ := n
  simp only at hil hkl
  cases L with
  | true =>
    obtain ⟨_, _, h⟩ := right_leaf hr
    have := flat_le its (fun x hx => itL_le (rise_all _ _ h x hx))
    have h2 := Pk.shL_le its.length
    simp [ndL]
    simp at this
    omega
  | false =>
    obtain ⟨_, _, h⟩ := right_kids hr
    have := flat_le kds (fun x hx => kdL_le (rise_all _ _ h x hx))
    have h2 := Pk.shL_le kds.length
    simp [ndL]
    simp at this
    omega

set_option maxRecDepth 10000 in
set_option maxHeartbeats 1000000 in
theorem size_any (n : Nd) (ai ak : Option Addr) (ci ck : Nat) (w : World) (hn : Has w n ai ak) (hil : n.its.length ≤ 1100) (hkl : n.kds.length ≤ 1100) :
    Calls Try.prog 14 #[.agg #[.bool n.leaf, .slice ai n.its.length ci, .slice ak n.kds.length ck]] w fun e w' => e = .returned (.int .i64 (sizeN n : Int)) ∧ Below w.heap.size w w' := by
  have hb0 := below_alloc w (.cells #[.bool n.leaf, .slice ai n.its.length ci, .slice ak n.kds.length ck] 25)
  have HB := hide hb0
  have q0 : (w.alloc (.cells #[.bool n.leaf, .slice ai n.its.length ci, .slice ak n.kds.length ck] 25)).cell? ⟨w.heap.size, 0, none⟩ = some (.bool n.leaf) := by simp
  have q1 : (w.alloc (.cells #[.bool n.leaf, .slice ai n.its.length ci, .slice ak n.kds.length ck] 25)).cell? ⟨w.heap.size, 1, none⟩ = some (.slice ai n.its.length ci) := by simp
  have q2 : (w.alloc (.cells #[.bool n.leaf, .slice ai n.its.length ci, .slice ak n.kds.length ck] 25)).cell? ⟨w.heap.size, 2, none⟩ = some (.slice ak n.kds.length ck) := by simp
  have HQ := hide (And.intro q0 (And.intro q1 q2))
  have HR := hide (isRight_any n ai ak ci ck _ (hn.grow hb0) (by omega) (by omega))
  by_cases hr : rightB n = true
  · have e : sizeN n = (strOf (ndL n)).size := by unfold sizeN; rw [if_pos hr, strOf_size]
    rw [e]
    have HN := hide hn
    rw [hr] at HR
    have HC := hide (fun W (hW : Below w.heap.size w W) => bytesOf_any n ai ak ci ck W (hn.grow hW) hr hil hkl)
    clear q0 q1 q2 hr e hn hb0
    go_enter Try.func14, Try.ntmps14
    go_wp2_with (first
      | (go_at_call 26; refine (unhide HR).mono ?_; rintro x w2 ⟨rfl, hb2⟩; have z0 := cell_keep (unhide HQ).1 hb2; have z1 := cell_keep (unhide HQ).2.1 hb2; have z2 := cell_keep (unhide HQ).2.2 hb2; have HB2 := hide (below_then (unhide HB) hb2); clear hb2)
      | (go_at_call 23; refine (unhide HC _ (unhide HB2)).mono ?_; rintro x w3 ⟨rfl, hb3⟩))
    go_ret
    exact ⟨rfl, below_then (unhide HB2) hb3⟩
  · have hr : rightB n = false := by simpa using hr
    have e : sizeN n = 0 := by unfold sizeN; rw [hr]; rfl
    rw [e]
    rw [hr] at HR
    clear q0 q1 q2 hr e hn hb0
    go_enter Try.func14, Try.ntmps14
    go_wp2_with (go_at_call 26; refine (unhide HR).mono ?_; rintro x w2 ⟨rfl, hb2⟩)
    go_ret
    exact ⟨rfl, below_then (unhide HB) hb2⟩

theorem sizeN_zero {n : Nd} (h : sizeN n = 0) : checkN n = 60 := by
  unfold sizeN at h
  unfold checkN
  split at h
  · have := ndL_pos n
    omega
  · rename_i hr
    rw [if_neg hr]
theorem sizeN_big {n : Nd} (h : 1007 < sizeN n) : checkN n = 61 := by
  unfold sizeN at h
  unfold checkN
  split at h
  · rename_i hr
    rw [if_pos hr, if_pos h]
  · omega
theorem sizeN_ok {n : Nd} (h0 : sizeN n ≠ 0) (h : ¬ 1007 < sizeN n) : checkN n = 0 := by
  unfold sizeN at h h0
  unfold checkN
  split at h
  · rename_i hr
    rw [if_pos hr, if_neg h]
  · rename_i hr
    rw [if_neg hr] at h0
    omega
theorem checkN_right {n : Nd} (h : checkN n = 0) : rightB n = true := by
  unfold checkN at h
  split at h
  · assumption
  · omega

set_option maxRecDepth 10000 in
set_option maxHeartbeats 1000000 in
theorem check_any (n : Nd) (ai ak : Option Addr) (ci ck : Nat) (w : World) (hn : Has w n ai ak) (hil : n.its.length ≤ 1100) (hkl : n.kds.length ≤ 1100) :
    Calls Try.prog 12 #[.agg #[.bool n.leaf, .slice ai n.its.length ci, .slice ak n.kds.length ck]] w fun e w' => e = .returned (.int .i64 (checkN n : Int)) ∧ Below w.heap.size w w' := by
  have hb0 := below_alloc w (.cells #[.bool n.leaf, .slice ai n.its.length ci, .slice ak n.kds.length ck] 25)
  have HB := hide hb0
  have HR := hide (size_any n ai ak ci ck _ (hn.grow hb0) hil hkl)
  clear hb0 hn
  by_cases h0 : sizeN n = 0
  · rw [sizeN_zero h0]
    rw [h0] at HR
    clear h0
    go_enter Try.func12, Try.ntmps12
    go_wp2_with (go_at_call 14; refine (unhide HR).mono ?_; rintro x w2 ⟨rfl, hb2⟩)
    go_ret
    exact ⟨rfl, below_then (unhide HB) hb2⟩
  · by_cases h1 : 1007 < sizeN n
    · rw [sizeN_big h1]
      generalize sizeN n = k at *
      have f0 : ((k : Int) == 0) = false := beq_eq_false_iff_ne.2 (by omega)
      go_enter Try.func12, Try.ntmps12
      go_wp2_with (go_at_call 14; refine (unhide HR).mono ?_; rintro x w2 ⟨rfl, hb2⟩)
      go_ret
      exact ⟨rfl, below_then (unhide HB) hb2⟩
    · rw [sizeN_ok h0 h1]
      generalize sizeN n = k at *
      have f0 : ((k : Int) == 0) = false := beq_eq_false_iff_ne.2 (by omega)
      go_enter Try.func12, Try.ntmps12
      go_wp2_with (go_at_call 14; refine (unhide HR).mono ?_; rintro x w2 ⟨rfl, hb2⟩)
      go_ret
      exact ⟨rfl, below_then (unhide HB) hb2⟩

set_option maxRecDepth 10000 in
set_option maxHeartbeats 1000000 in
theorem encode_any (n : Nd) (ai ak : Option Addr) (ci ck : Nat) (w : World) (hn : Has w n ai ak) (hil : n.its.length ≤ 1100) (hkl : n.kds.length ≤ 1100) :
    Calls Try.prog 10 #[.agg #[.bool n.leaf, .slice ai n.its.length ci, .slice ak n.kds.length ck]] w fun e w' => e = .returned (.tuple #[.string (encodeN n).1, .int .i64 ((encodeN n).2 : Int)]) ∧ Below w.heap.size w w' := by
  have hb0 := below_alloc w (.cells #[.bool n.leaf, .slice ai n.its.length ci, .slice ak n.kds.length ck] 25)
  have HB := hide hb0
  have q0 : (w.alloc (.cells #[.bool n.leaf, .slice ai n.its.length ci, .slice ak n.kds.length ck] 25)).cell? ⟨w.heap.size, 0, none⟩ = some (.bool n.leaf) := by simp
  have q1 : (w.alloc (.cells #[.bool n.leaf, .slice ai n.its.length ci, .slice ak n.kds.length ck] 25)).cell? ⟨w.heap.size, 1, none⟩ = some (.slice ai n.its.length ci) := by simp
  have q2 : (w.alloc (.cells #[.bool n.leaf, .slice ai n.its.length ci, .slice ak n.kds.length ck] 25)).cell? ⟨w.heap.size, 2, none⟩ = some (.slice ak n.kds.length ck) := by simp
  have HQ := hide (And.intro q0 (And.intro q1 q2))
  have HR := hide (check_any n ai ak ci ck _ (hn.grow hb0) hil hkl)
  by_cases h0 : checkN n = 0
  · have e : encodeN n = (strOf (ndL n), 0) := by unfold encodeN; rw [if_pos h0]
    rw [e]
    have HC := hide (fun W (hW : Below w.heap.size w W) => bytesOf_any n ai ak ci ck W (hn.grow hW) (checkN_right h0) hil hkl)
    rw [h0] at HR
    clear q0 q1 q2 h0 e hn hb0
    go_enter Try.func10, Try.ntmps10
    go_wp2_with (first
      | (go_at_call 12; refine (unhide HR).mono ?_; rintro x w2 ⟨rfl, hb2⟩; have z0 := cell_keep (unhide HQ).1 hb2; have z1 := cell_keep (unhide HQ).2.1 hb2; have z2 := cell_keep (unhide HQ).2.2 hb2; have HB2 := hide (below_then (unhide HB) hb2); clear hb2)
      | (go_at_call 23; refine (unhide HC _ (unhide HB2)).mono ?_; rintro x w3 ⟨rfl, hb3⟩))
    go_ret2
    exact ⟨rfl, below_then (unhide HB2) hb3⟩
  · have e : encodeN n = (⟨#[]⟩, checkN n) := by unfold encodeN; rw [if_neg h0]
    rw [e]
    generalize checkN n = k at *
    have f0 : ((k : Int) == 0) = false := beq_eq_false_iff_ne.2 (by omega)
    have f1 : ((k : Int) != 0) = true := bne_iff_ne.2 (by omega)
    clear q0 q1 q2 h0 e hn hb0
    go_enter Try.func10, Try.ntmps10
    go_wp2_with (go_at_call 12; refine (unhide HR).mono ?_; rintro x w2 ⟨rfl, hb2⟩)
    go_ret2
    exact ⟨rfl, below_then (unhide HB) hb2⟩
end Go.Proofs.Ytepkifledonldaa
