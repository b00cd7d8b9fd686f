/- Whether a node is right, as the program tells it. -/
import Derived.Test.YtepkifledonldaaRight
namespace Go.Proofs.Ytepkifledonldaa
open Go.ChangeShapes Go.WideShapes Go.ChangeAt Go.RowKit

theorem len_zero {α : Type} {l : List α} (h : l.length = 0) : l.isEmpty = true := by
  rw [List.isEmpty_iff]
  exact List.length_eq_zero_iff.1 h
theorem len_some {α : Type} {l : List α} (h : 0 < l.length) : l.isEmpty = false := by
  cases l with
  | nil => simp at h
  | cons _ _ => rfl

set_option maxRecDepth 10000 in
set_option maxHeartbeats 2000000 in
theorem isRight_any (n : Nd) (ai ak : Option Addr) (ci ck : Nat) (w : World) (hn : Has w n ai ak) (hil : n.its.length ≤ 1000000) (hkl : n.kds.length ≤ 1000000) :
    Calls Try.prog 26 #[.agg #[.bool n.leaf, .slice ai n.its.length ci, .slice ak n.kds.length ck]] w fun e w' => e = .returned (.bool (rightB n)) ∧ Below w.heap.size w w' := by
  obtain ⟨L, its, kds⟩ := n
  simp only at hil hkl
  have hb0 := below_alloc w (.cells #[.bool L, .slice ai its.length ci, .slice ak kds.length ck] 25)
  have HI := hide (areRightI_any ai ci its _ (hn.1.grow hb0) hil)
  have HK := hide (areRightK_any ak ck kds _ (hn.2.grow hb0) hkl)
  have HB := hide hb0
  clear hn hb0
  cases L with
  | true =>
    by_cases h0 : kds.length = 0
    · have e : rightB ⟨true, its, kds⟩ = (!its.isEmpty && rise mayI none its) := by simp [rightB, len_zero h0]
      rw [e]
      have e0 : ((kds.length : Int) == 0) = true := beq_iff_eq.2 (by omega)
      clear e h0
      go_enter Try.func26, Try.ntmps26
      go_wp2_with (go_at_call 49; refine (unhide HI).mono ?_; rintro x w2 ⟨rfl, hb⟩)
      go_ret
      exact ⟨rfl, below_then (unhide HB) hb⟩
    · have e : rightB ⟨true, its, kds⟩ = false := by simp [rightB, len_some (Nat.pos_of_ne_zero h0)]
      rw [e]
      have e0 : ((kds.length : Int) == 0) = false := beq_eq_false_iff_ne.2 (by omega)
      clear e h0
      go_enter Try.func26, Try.ntmps26
      go_wp2
      go_ret
      exact ⟨rfl, unhide HB⟩
  | false =>
    by_cases h0 : its.length = 0
    · have e : rightB ⟨false, its, kds⟩ = (!kds.isEmpty && rise mayK none kds) := by simp [rightB, len_zero h0]
      rw [e]
      have e0 : ((its.length : Int) == 0) = true := beq_iff_eq.2 (by omega)
      clear e h0
      go_enter Try.func26, Try.ntmps26
      go_wp2_with (go_at_call 51; refine (unhide HK).mono ?_; rintro x w2 ⟨rfl, hb⟩)
      go_ret
      exact ⟨rfl, below_then (unhide HB) hb⟩
    · have e : rightB ⟨false, its, kds⟩ = false := by simp [rightB, len_some (Nat.pos_of_ne_zero h0)]
      rw [e]
      have e0 : ((its.length : Int) == 0) = false := beq_eq_false_iff_ne.2 (by omega)
      clear e h0
      go_enter Try.func26, Try.ntmps26
      go_wp2
      go_ret
      exact ⟨rfl, unhide HB⟩
end Go.Proofs.Ytepkifledonldaa
