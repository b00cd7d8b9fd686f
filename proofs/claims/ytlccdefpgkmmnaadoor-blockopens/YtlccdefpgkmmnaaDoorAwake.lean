/- What awake does: it answers true. -/
import Derived.Test.YtlccdefpgkmmnaaDoorOpen
import Derived.Test.YtlccdefpgkmmnaaDoorBoth
namespace Go.Proofs.YtlccdefpgkmmnaaDoor
open Go.ChangeShapes Go.WideShapes Go.ChangeAt Go.RowKit

theorem front_sector (k g : Nat) (P : ByteArray) (hk : k ≤ 255) (hp : P.size ≤ 1007) : (strOf (Blk.sector k g (bn P))).extract 0 5 = strOf [67, 80, k, P.size / 256, P.size % 256] := by
  apply bn_inj
  rw [bn_fst, bn_sector hk hp, bn_strOf _ (fun b hb => by simp at hb; omega), ← bn_length P]
  rfl

set_option maxRecDepth 10000 in
set_option maxHeartbeats 1000000 in
theorem awake_any (w : World) (hT : Tab w) :
    Calls Tryd.prog 8 #[] w fun e w' => e = .returned (.bool true) ∧ Below w.heap.size w w' := by
  have h1 := fun w' (h' : Tab w') => wrap_any 1 7 ⟨#[97, 98, 99]⟩ w' h'
  have e1 : wrapR 1 7 ⟨#[97, 98, 99]⟩ = (strOf (Blk.sector 1 7 (bn ⟨#[97, 98, 99]⟩)), 0) := wrapR_ok (by omega) (by decide)
  rw [e1] at h1
  have h2 := fun w' (h' : Tab w') => open_any (strOf (Blk.sector 1 7 (bn ⟨#[97, 98, 99]⟩))) w' h'
  rw [open_wrap (k := 1) (g := 7) (P := ⟨#[97, 98, 99]⟩) (by decide) (by decide) (by decide)] at h2
  have hz : (strOf (Blk.sector 1 7 (bn ⟨#[97, 98, 99]⟩))).size = 1024 := size_sector (P := ⟨#[97, 98, 99]⟩) (by decide)
  have hf : (strOf (Blk.sector 1 7 (bn ⟨#[97, 98, 99]⟩))).extract 0 5 = ⟨#[67, 80, 1, 0, 3]⟩ := front_sector 1 7 ⟨#[97, 98, 99]⟩ (by decide) (by decide)
  generalize strOf (Blk.sector 1 7 (bn ⟨#[97, 98, 99]⟩)) = S at *
  have H1 := hide h1
  have H2 := hide h2
  have HT := hide hT
  clear h1 h2 hT e1
  go_enter Tryd.func8, Tryd.ntmps8
  go_wp2_with (first
    | (go_at_call 9; refine (unhide H1 _ (unhide HT)).mono ?_; rintro e w1 ⟨rfl, hb1⟩)
    | (go_at_call 11; refine (unhide H2 _ ((unhide HT).below hb1)).mono ?_; unfold opened; rintro e w2 ⟨rfl, hb2⟩))
  go_ret
  exact ⟨rfl, (below_then hb1 hb2).alloc (below_then hb1 hb2).size _⟩
end Go.Proofs.YtlccdefpgkmmnaaDoor
