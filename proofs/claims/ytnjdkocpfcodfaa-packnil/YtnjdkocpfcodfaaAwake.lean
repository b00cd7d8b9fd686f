/- The laws' own first look: bytes that the document tells. -/
import Derived.Test.YtnjdkocpfcodfaaReader
import Derived.Test.YtnjdkocpfcodfaaShort
import Derived.Test.YtnjdkocpfcodfaaFixed
namespace Go.Proofs.Ytnjdkocpfcodfaa
open Go.ChangeShapes Go.WideShapes Go.ChangeAt Go.RowKit

theorem known_short : strOf (Pk.shL 128) = ⟨#[128, 1]⟩ := rfl
theorem known_fixed : strOf (Pk.fixL 1) = ⟨#[0, 0, 0, 0, 0, 0, 0, 1]⟩ := rfl
theorem known_scan : Pk.scan (bn ⟨#[128, 1]⟩) = (128, 2, 0) := by decide
theorem known_read : shortR ⟨#[128, 1]⟩ 0 = (128, ⟨#[]⟩, 0) := by
  unfold shortR
  rw [known_scan]
  rfl
theorem below_then {W w1 w2 : World} (h : Below W.heap.size W w1) (k : Below w1.heap.size w1 w2) : Below W.heap.size W w2 := h.trans (k.mono h.size)
/-- a step of a reader of one's own, as seen from the start -/
theorem below_told {B : Nat} {W w w' : World} {r e : Nat} {L : ByteArray} (h : Below B W w) (hB : B ≤ w.heap.size) (t : Told w w' r L e) (hr : B ≤ r) : Below B W w' :=
  h.grown t.1 hB (fun k hk => by injection hk with hk; omega)

set_option maxRecDepth 10000 in
set_option maxHeartbeats 1000000 in
theorem awake_any (w : World) : Calls Try.prog 10 #[] w fun e w' => e = .returned (.bool true) ∧ Below w.heap.size w w' := by
  have H1 := hide (fun W => short_any 128 W (by omega))
  have H2 := hide (fun W => fixed_any 1 W (by omega))
  go_enter Try.func10, Try.ntmps10
  go_wp2_with (first
    | (go_at_call 17; refine (read_any _ _).mono ?_; rintro x w' ⟨rfl, rfl⟩)
    | (go_at_call 13; refine (unhide H1 _).mono ?_; rintro x w1 ⟨hx, hb1⟩; have hx' : x = .returned (.string ⟨#[128, 1]⟩) := hx; subst hx'; clear hx)
    | (go_at_call 11; refine (unhide H2 _).mono ?_; rintro x w2 ⟨hx, hb2⟩; have hx' : x = .returned (.string ⟨#[0, 0, 0, 0, 0, 0, 0, 1]⟩) := hx; subst hx'; clear hx)
    | (go_at_call 22; refine (rshort_any _ 0 ⟨#[128, 1]⟩ _ (((Rd.new _ _).below hb1).below hb2) (by decide)).mono ?_; rw [known_read]; rintro x w3 ⟨rfl, ht⟩)
    | (go_at_call 29; refine (end_any _ 0 ⟨#[]⟩ _ ht.2 (by decide)).mono ?_; rintro x w4 ⟨hx, rfl⟩; have hx' : x = .returned (.int .i64 0) := hx; subst hx'; clear hx))
  go_ret
  refine ⟨rfl, ?_⟩
  have hb : Below w.heap.size w w2 := below_then (below_then ((Below.refl _ w).alloc (Nat.le_refl _) _) hb1) hb2
  exact below_told hb hb.size ht (Nat.le_refl _)
end Go.Proofs.Ytnjdkocpfcodfaa
