/- Right, Check, Size, Encode, as the document answers: the same functions. -/
import Derived.Test.YtepkifledonldaaRefloops
import Derived.Test.YtepkifledonldaaEnc
namespace Go.Proofs.Ytepkifledonldaa
open Go.ChangeShapes Go.WideShapes Go.ChangeAt Go.RowKit

set_option maxRecDepth 10000 in
set_option maxHeartbeats 2000000 in
theorem refRight_any (n : Nd) (ai ak : Option Addr) (ci ck : Nat) (w : World) (hn : Has w n ai ak) (hil : n.its.length ≤ 1000000) (hkl : n.kds.length ≤ 1000000) :
    Calls Try.prog 25 #[.agg #[.bool n.leaf, .slice ai n.its.length ci, .slice ak n.kds.length ck]] w fun e w' => e = .returned (.bool (rightB n)) ∧ Below w.heap.size w w' := by
  obtain ⟨L, its, kds⟩ := n
  simp only at hil hkl
  cases L with
  | true =>
    by_cases h0 : kds.length = 0
    · obtain rfl := List.length_eq_zero_iff.1 h0
      by_cases h1 : 0 < its.length
      · have e : rightB ⟨true, its, []⟩ = rise mayI none its := by simp [rightB, len_some h1]
        rw [e]
        exact refRightI ai ak ci ck its w hn.1 hil h1
      · have e : rightB ⟨true, its, []⟩ = false := by simp [rightB, len_zero (show its.length = 0 by omega)]
        rw [e]
        have e0 : ((its.length : Int) == 0) = true := beq_iff_eq.2 (by omega)
        clear e h0 hn h1
        go_enter Try.func25, Try.ntmps25
        go_wp2
        go_ret
        exact ⟨rfl, below_alloc _ _⟩
    · have e : rightB ⟨true, its, kds⟩ = false := by simp [rightB, len_some (Nat.pos_of_ne_zero h0)]
      rw [e]
      have hp : 0 < kds.length := Nat.pos_of_ne_zero h0
      clear e hn h0
      by_cases h1 : 0 < its.length
      · have e0 : ((its.length : Int) == 0) = false := beq_eq_false_iff_ne.2 (by omega)
        clear h1
        go_enter Try.func25, Try.ntmps25
        go_wp2
        go_ret
        exact ⟨rfl, below_alloc _ _⟩
      · have e0 : ((its.length : Int) == 0) = true := beq_iff_eq.2 (by omega)
        clear h1
        go_enter Try.func25, Try.ntmps25
        go_wp2
        go_ret
        exact ⟨rfl, below_alloc _ _⟩
  | false =>
    by_cases h0 : its.length = 0
    · obtain rfl := List.length_eq_zero_iff.1 h0
      by_cases h1 : 0 < kds.length
      · have e : rightB ⟨false, [], kds⟩ = rise mayK none kds := by simp [rightB, len_some h1]
        rw [e]
        exact refRightK ai ak ci ck kds w hn.2 hkl h1
      · have e : rightB ⟨false, [], kds⟩ = false := by simp [rightB, len_zero (show kds.length = 0 by omega)]
        rw [e]
        have e0 : ((kds.length : Int) == 0) = true := beq_iff_eq.2 (by omega)
        clear e h0 hn h1
        go_enter Try.func25, Try.ntmps25
        go_wp2
        go_ret
        exact ⟨rfl, below_alloc _ _⟩
    · have e : rightB ⟨false, its, kds⟩ = false := by simp [rightB, len_some (Nat.pos_of_ne_zero h0)]
      rw [e]
      have hp : 0 < its.length := Nat.pos_of_ne_zero h0
      clear e hn h0
      by_cases h1 : 0 < kds.length
      · have e0 : ((kds.length : Int) == 0) = false := beq_eq_false_iff_ne.2 (by omega)
        clear h1
        go_enter Try.func25, Try.ntmps25
        go_wp2
        go_ret
        exact ⟨rfl, below_alloc _ _⟩
      · have e0 : ((kds.length : Int) == 0) = true := beq_iff_eq.2 (by omega)
        clear h1
        go_enter Try.func25, Try.ntmps25
        go_wp2
        go_ret
        exact ⟨rfl, below_alloc _ _⟩

theorem refBytes_any (n : Nd) (ai ak : Option Addr) (ci ck : Nat) (w : World) (hn : Has w n ai ak) (hr : rightB n = true) (hil : n.its.length ≤ 1100) (hkl : n.kds.length ≤ 1100) :
    Calls Try.prog 24 #[.agg #[.bool n.leaf, .slice ai n.its.length ci, .slice ak n.kds.length ck]] w fun e w' => e = .returned (.string (strOf (ndL n))) ∧ Below w.heap.size w w' := by
  obtain ⟨L, its, kds⟩ := n
  cases L with
  | true =>
    obtain ⟨rfl, _, h⟩ := right_leaf hr
    exact refBytesI ai ak ci ck its w hn.1 hil (rise_all _ _ h)
  | false =>
    obtain ⟨rfl, _, h⟩ := right_kids hr
    exact refBytesK ai ak ci ck kds w hn.2 hkl (rise_all _ _ h)

set_option maxRecDepth 10000 in
set_option maxHeartbeats 1000000 in
theorem refSize_any (n : Nd) (ai ak : Option Addr) (ci ck : Nat) (w : World) (hn : Has w n ai ak) (hil : n.its.length ≤ 1100) (hkl : n.kds.length ≤ 1100) :
    Calls Try.prog 15 #[.agg #[.bool n.leaf, .slice ai n.its.length ci, .slice ak n.kds.length ck]] w fun e w' => e = .returned (.int .i64 (sizeN n : Int)) ∧ Below w.heap.size w w' := by
  have hb0 := below_alloc w (.cells #[.bool n.leaf, .slice ai n.its.length ci, .slice ak n.kds.length ck] 25)
  have HB := hide hb0
  have q0 : (w.alloc (.cells #[.bool n.leaf, .slice ai n.its.length ci, .slice ak n.kds.length ck] 25)).cell? ⟨w.heap.size, 0, none⟩ = some (.bool n.leaf) := by simp
  have q1 : (w.alloc (.cells #[.bool n.leaf, .slice ai n.its.length ci, .slice ak n.kds.length ck] 25)).cell? ⟨w.heap.size, 1, none⟩ = some (.slice ai n.its.length ci) := by simp
  have q2 : (w.alloc (.cells #[.bool n.leaf, .slice ai n.its.length ci, .slice ak n.kds.length ck] 25)).cell? ⟨w.heap.size, 2, none⟩ = some (.slice ak n.kds.length ck) := by simp
  have HQ := hide (And.intro q0 (And.intro q1 q2))
  have HR := hide (refRight_any n ai ak ci ck _ (hn.grow hb0) (by omega) (by omega))
  by_cases hr : rightB n = true
  · have e : sizeN n = (strOf (ndL n)).size := by unfold sizeN; rw [if_pos hr, strOf_size]
    rw [e]
    rw [hr] at HR
    have HC := hide (fun W (hW : Below w.heap.size w W) => refBytes_any n ai ak ci ck W (hn.grow hW) hr hil hkl)
    clear q0 q1 q2 hr e hn hb0
    go_enter Try.func15, Try.ntmps15
    go_wp2_with (first
      | (go_at_call 25; refine (unhide HR).mono ?_; rintro x w2 ⟨rfl, hb2⟩; have z0 := cell_keep (unhide HQ).1 hb2; have z1 := cell_keep (unhide HQ).2.1 hb2; have z2 := cell_keep (unhide HQ).2.2 hb2; have HB2 := hide (below_then (unhide HB) hb2); clear hb2)
      | (go_at_call 24; refine (unhide HC _ (unhide HB2)).mono ?_; rintro x w3 ⟨rfl, hb3⟩))
    go_ret
    exact ⟨rfl, below_then (unhide HB2) hb3⟩
  · have hr : rightB n = false := by simpa using hr
    have e : sizeN n = 0 := by unfold sizeN; rw [hr]; rfl
    rw [e]
    rw [hr] at HR
    clear q0 q1 q2 hr e hn hb0
    go_enter Try.func15, Try.ntmps15
    go_wp2_with (go_at_call 25; refine (unhide HR).mono ?_; rintro x w2 ⟨rfl, hb2⟩)
    go_ret
    exact ⟨rfl, below_then (unhide HB) hb2⟩

set_option maxRecDepth 10000 in
set_option maxHeartbeats 1000000 in
theorem refCheck_any (n : Nd) (ai ak : Option Addr) (ci ck : Nat) (w : World) (hn : Has w n ai ak) (hil : n.its.length ≤ 1100) (hkl : n.kds.length ≤ 1100) :
    Calls Try.prog 13 #[.agg #[.bool n.leaf, .slice ai n.its.length ci, .slice ak n.kds.length ck]] w fun e w' => e = .returned (.int .i64 (checkN n : Int)) ∧ Below w.heap.size w w' := by
  have hb0 := below_alloc w (.cells #[.bool n.leaf, .slice ai n.its.length ci, .slice ak n.kds.length ck] 25)
  have HB := hide hb0
  have q0 : (w.alloc (.cells #[.bool n.leaf, .slice ai n.its.length ci, .slice ak n.kds.length ck] 25)).cell? ⟨w.heap.size, 0, none⟩ = some (.bool n.leaf) := by simp
  have q1 : (w.alloc (.cells #[.bool n.leaf, .slice ai n.its.length ci, .slice ak n.kds.length ck] 25)).cell? ⟨w.heap.size, 1, none⟩ = some (.slice ai n.its.length ci) := by simp
  have q2 : (w.alloc (.cells #[.bool n.leaf, .slice ai n.its.length ci, .slice ak n.kds.length ck] 25)).cell? ⟨w.heap.size, 2, none⟩ = some (.slice ak n.kds.length ck) := by simp
  have HQ := hide (And.intro q0 (And.intro q1 q2))
  have HR := hide (refRight_any n ai ak ci ck _ (hn.grow hb0) (by omega) (by omega))
  by_cases hr : rightB n = true
  · have e : checkN n = if 1007 < (strOf (ndL n)).size then 61 else 0 := by unfold checkN; rw [if_pos hr, strOf_size]
    rw [e]
    rw [hr] at HR
    have HC := hide (fun W (hW : Below w.heap.size w W) => refBytes_any n ai ak ci ck W (hn.grow hW) hr hil hkl)
    clear q0 q1 q2 hr e hn hb0
    generalize strOf (ndL n) = T at *
    by_cases hbig : 1007 < T.size
    · rw [if_pos hbig]
      go_enter Try.func13, Try.ntmps13
      go_wp2_with (first
        | (go_at_call 25; refine (unhide HR).mono ?_; rintro x w2 ⟨rfl, hb2⟩; have z0 := cell_keep (unhide HQ).1 hb2; have z1 := cell_keep (unhide HQ).2.1 hb2; have z2 := cell_keep (unhide HQ).2.2 hb2; have HB2 := hide (below_then (unhide HB) hb2); clear hb2)
        | (go_at_call 24; refine (unhide HC _ (unhide HB2)).mono ?_; rintro x w3 ⟨rfl, hb3⟩))
      go_ret
      exact ⟨rfl, below_then (unhide HB2) hb3⟩
    · rw [if_neg hbig]
      go_enter Try.func13, Try.ntmps13
      go_wp2_with (first
        | (go_at_call 25; refine (unhide HR).mono ?_; rintro x w2 ⟨rfl, hb2⟩; have z0 := cell_keep (unhide HQ).1 hb2; have z1 := cell_keep (unhide HQ).2.1 hb2; have z2 := cell_keep (unhide HQ).2.2 hb2; have HB2 := hide (below_then (unhide HB) hb2); clear hb2)
        | (go_at_call 24; refine (unhide HC _ (unhide HB2)).mono ?_; rintro x w3 ⟨rfl, hb3⟩))
      go_ret
      exact ⟨rfl, below_then (unhide HB2) hb3⟩
  · have hr : rightB n = false := by simpa using hr
    have e : checkN n = 60 := by unfold checkN; rw [hr]; rfl
    rw [e]
    rw [hr] at HR
    clear q0 q1 q2 hr e hn hb0
    go_enter Try.func13, Try.ntmps13
    go_wp2_with (go_at_call 25; refine (unhide HR).mono ?_; rintro x w2 ⟨rfl, hb2⟩)
    go_ret
    exact ⟨rfl, below_then (unhide HB) hb2⟩

set_option maxRecDepth 10000 in
set_option maxHeartbeats 1000000 in
theorem refEncode_any (n : Nd) (ai ak : Option Addr) (ci ck : Nat) (w : World) (hn : Has w n ai ak) (hil : n.its.length ≤ 1100) (hkl : n.kds.length ≤ 1100) :
    Calls Try.prog 11 #[.agg #[.bool n.leaf, .slice ai n.its.length ci, .slice ak n.kds.length ck]] w fun e w' => e = .returned (.tuple #[.string (encodeN n).1, .int .i64 ((encodeN n).2 : Int)]) ∧ Below w.heap.size w w' := by
  have hb0 := below_alloc w (.cells #[.bool n.leaf, .slice ai n.its.length ci, .slice ak n.kds.length ck] 25)
  have HB := hide hb0
  have q0 : (w.alloc (.cells #[.bool n.leaf, .slice ai n.its.length ci, .slice ak n.kds.length ck] 25)).cell? ⟨w.heap.size, 0, none⟩ = some (.bool n.leaf) := by simp
  have q1 : (w.alloc (.cells #[.bool n.leaf, .slice ai n.its.length ci, .slice ak n.kds.length ck] 25)).cell? ⟨w.heap.size, 1, none⟩ = some (.slice ai n.its.length ci) := by simp
  have q2 : (w.alloc (.cells #[.bool n.leaf, .slice ai n.its.length ci, .slice ak n.kds.length ck] 25)).cell? ⟨w.heap.size, 2, none⟩ = some (.slice ak n.kds.length ck) := by simp
  have HQ := hide (And.intro q0 (And.intro q1 q2))
  have HR := hide (refCheck_any n ai ak ci ck _ (hn.grow hb0) hil hkl)
  by_cases h0 : checkN n = 0
  · have e : encodeN n = (strOf (ndL n), 0) := by unfold encodeN; rw [if_pos h0]
    rw [e]
    have HC := hide (fun W (hW : Below w.heap.size w W) => refBytes_any n ai ak ci ck W (hn.grow hW) (checkN_right h0) hil hkl)
    rw [h0] at HR
    clear q0 q1 q2 h0 e hn hb0
    go_enter Try.func11, Try.ntmps11
    go_wp2_with (first
      | (go_at_call 13; refine (unhide HR).mono ?_; rintro x w2 ⟨rfl, hb2⟩; have z0 := cell_keep (unhide HQ).1 hb2; have z1 := cell_keep (unhide HQ).2.1 hb2; have z2 := cell_keep (unhide HQ).2.2 hb2; have HB2 := hide (below_then (unhide HB) hb2); clear hb2)
      | (go_at_call 24; refine (unhide HC _ (unhide HB2)).mono ?_; rintro x w3 ⟨rfl, hb3⟩))
    go_ret2
    exact ⟨rfl, below_then (unhide HB2) hb3⟩
  · have e : encodeN n = (⟨#[]⟩, checkN n) := by unfold encodeN; rw [if_neg h0]
    rw [e]
    generalize checkN n = k at *
    have f0 : ((k : Int) == 0) = false := beq_eq_false_iff_ne.2 (by omega)
    have f1 : ((k : Int) != 0) = true := bne_iff_ne.2 (by omega)
    clear q0 q1 q2 h0 e hn hb0
    go_enter Try.func11, Try.ntmps11
    go_wp2_with (go_at_call 13; refine (unhide HR).mono ?_; rintro x w2 ⟨rfl, hb2⟩)
    go_ret2
    exact ⟨rfl, below_then (unhide HB) hb2⟩
end Go.Proofs.Ytepkifledonldaa
