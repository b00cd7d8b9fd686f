/- The walk of the law NodeSplits. -/
import Derived.Test.YtepkifledonldaaLawspl
import Derived.Test.YtepkifledonldaaLawspli
import Derived.Test.YtepkifledonldaaLawsplk
namespace Go.Proofs.Ytepkifledonldaa
open Go.ChangeShapes Go.WideShapes Go.ChangeAt Go.RowKit

/- The walk of the law NodeSplits, nodes that are not right. -/
set_option maxRecDepth 10000 in
set_option maxHeartbeats 8000000 in
theorem splitsN (n : Nd) (ai ak : Option Addr) (ci ck : Nat) (w : World) (hn : Has w n ai ak) (hll : Lens n) (hr : rightB n = false) :
    Calls Try.prog 7 #[.agg #[.bool n.leaf, .slice ai n.its.length ci, .slice ak n.kds.length ck]] w fun e w' => e = .returned (.bool true) ∧ Below w.heap.size w w' := by
  have HB := hide (below_alloc w (.cells #[.bool n.leaf, .slice ai n.its.length ci, .slice ak n.kds.length ck] 25))
  have hq := Nblk.new w n.leaf ai ak n.its.length ci n.kds.length ck
  have HN := hide hn
  clear hn
  go_enter Try.func7, Try.ntmps7
  go_wp2_with fail
  obtain ⟨p, hp⟩ : ∃ y, y = w.heap.size := ⟨_, rfl⟩
  rw [← hp] at hq ⊢
  generalize w.alloc (.cells #[.bool n.leaf, .slice ai n.its.length ci, .slice ak n.kds.length ck] 25) = w1 at *
  clear hp
  refine (awake_any _).mono ?_
  rintro x w2 ⟨rfl, hb⟩
  have HQ := hide (hq.below hb)
  have HB := hide (below_then (unhide HB) hb)
  clear hb hq
  have q0 := (unhide HQ).cell0
  have q1 := (unhide HQ).cell1
  have q2 := (unhide HQ).cell2
  go_wp2_with fail
  refine (great_any n ai ak ci ck _ ((unhide HN).grow (unhide HB)) hll.1 hll.2).mono ?_
  rintro x w3 ⟨g, rfl, hg, hb⟩
  have HQ := hide ((unhide HQ).below hb)
  have HB := hide (below_then (unhide HB) hb)
  clear hb q0 q1 q2
  cases g with
  | true =>
    go_wp2
    go_ret
    exact ⟨rfl, unhide HB⟩
  | false =>
    have HF := hide (hg rfl)
    clear hg
    have q0 := (unhide HQ).cell0
    have q1 := (unhide HQ).cell1
    have q2 := (unhide HQ).cell2
    have hil : n.its.length ≤ 1100 := Nat.le_trans (unhide HF).1 (by decide)
    have hkl : n.kds.length ≤ 1100 := Nat.le_trans (unhide HF).2.1 (by decide)
    try simp only at hil hkl
    have HN3 := hide ((unhide HN).grow (unhide HB))
    have HKS := hide (fun (w' : World) (h : Below w3.heap.size w3 w') => (⟨h, cell_keep q0 h, cell_keep q1 h, cell_keep q2 h⟩ : Below w3.heap.size w3 w' ∧ w'.cell? ⟨p, 0, none⟩ = some (.bool n.leaf) ∧ w'.cell? ⟨p, 1, none⟩ = some (.slice ai n.its.length ci) ∧ w'.cell? ⟨p, 2, none⟩ = some (.slice ak n.kds.length ck)))
    go_wp2_with fail
    go_cut [3, 4] (fun s3 s4 wc => s3 = .slice none 0 0 ∧ s4 = .slice none 0 0 ∧ Below w3.heap.size w3 wc)
    case first =>
      refine wp_region_noPanic ?_
      refine wp_region_held_drew (S := fun w' => Below w3.heap.size w3 w' ∧ w'.cell? ⟨p, 0, none⟩ = some (.bool n.leaf) ∧ w'.cell? ⟨p, 1, none⟩ = some (.slice ai n.its.length ci) ∧ w'.cell? ⟨p, 2, none⟩ = some (.slice ak n.kds.length ck)) (by kernel_rfl) (unhide HKS _ (below_drew w3)) (fun hHeld => ?_)
      refine takeY 0 (some 11) ?_ rfl rfl (by kernel_rfl) (by kernel_rfl) (by kernel_rfl) (fun _ _ _ h => h) (by rfl) ?_ hHeld ?_
      rotate_left
      · intro w hSw; (try dsimp only at hSw); go_simp <;> with_reducible rfl
      simp only [Act.put, List.setIfInBounds_toArray, List.set_cons_zero, List.set_cons_succ]
      refine takeY 2 (some 13) ?_ rfl rfl (by kernel_rfl) (by kernel_rfl) (by kernel_rfl) (fun _ _ _ h => h) (by rfl) ?_ hHeld ?_
      rotate_left
      · intro w hSw; (try dsimp only at hSw); go_simp <;> with_reducible rfl
      simp only [Act.put, List.setIfInBounds_toArray, List.set_cons_zero, List.set_cons_succ]
      obtain ⟨wX, hwX⟩ : ∃ y, y = w3.drew := ⟨_, rfl⟩
      rw [← hwX] at hHeld ⊢
      clear hwX
      have hbX := hHeld.1
      refine wpAnyH_ready (rs := [1]) (by kernel_rfl) (by simp) ?_
      refine AllReadyH.cons rfl (fun K hK => ?_) AllReadyH.nil
      go_simp
      refine (split_none n ai ak ci ck _ ((unhide HN3).grow hbX) hil hkl hr).mono ?_
      rintro x wX ⟨rfl, hb⟩
      have hbX := below_then hbX hb
      refine hK.out _ _ (unhide HKS _ hbX) (fun hHeld => ?_)
      clear hK K
      try simp only [Act.put, List.setIfInBounds_toArray, List.set_cons_zero, List.set_cons_succ]
      refine wpAnyH_ready (rs := [3]) (by kernel_rfl) (by simp) ?_
      refine AllReadyH.cons rfl (fun K hK => ?_) AllReadyH.nil
      go_simp
      refine (refSplit_none n ai ak ci ck _ ((unhide HN3).grow hbX) hil hkl hr).mono ?_
      rintro x wX ⟨rfl, hb⟩
      have hbX := below_then hbX hb
      refine hK.out _ _ (unhide HKS _ hbX) (fun hHeld => ?_)
      clear hK K
      try simp only [Act.put, List.setIfInBounds_toArray, List.set_cons_zero, List.set_cons_succ]
      refine takeY 4 (some 3) ?_ rfl rfl (by kernel_rfl) (by kernel_rfl) (by kernel_rfl) (fun _ _ _ h => h) (by rfl) ?_ hHeld ?_
      rotate_left
      · intro w hSw; (try dsimp only at hSw); go_simp <;> with_reducible rfl
      simp only [Act.put, List.setIfInBounds_toArray, List.set_cons_zero, List.set_cons_succ]
      refine takeY 5 (some 4) ?_ rfl rfl (by kernel_rfl) (by kernel_rfl) (by kernel_rfl) (fun _ _ _ h => h) (by rfl) ?_ hHeld ?_
      rotate_left
      · intro w hSw; (try dsimp only at hSw); go_simp <;> with_reducible rfl
      simp only [Act.put, List.setIfInBounds_toArray, List.set_cons_zero, List.set_cons_succ]
      refine wpAnyH_done (by kernel_rfl) ?_ _
      refine NoPanic.normal ?_
      go_wp2_with fail
      go_meet
      exact ⟨rfl, rfl, hbX⟩
    case rest =>
      obtain ⟨rfl, rfl, hbc⟩ := hcut
      have HBC := hide hbc
      have hec := checkN_wrong hr
      have HC := hide (fun (W : World) (h : Below w3.heap.size w3 W) => check_any n ai ak ci ck W ((unhide HN3).grow h) hil hkl)
      rw [hec] at HC
      have q0 := (unhide HKS _ hbc).2.1
      have q1 := (unhide HKS _ hbc).2.2.1
      have q2 := (unhide HKS _ hbc).2.2.2
      clear hbc hec
      go_wp2_with fail
      refine (unhide HC _ (unhide HBC)).mono ?_
      rintro x w6 ⟨rfl, hb⟩
      have HBC := hide (below_then (unhide HBC) hb)
      have q0 := (unhide HKS _ (unhide HBC)).2.1
      have q1 := (unhide HKS _ (unhide HBC)).2.2.1
      have q2 := (unhide HKS _ (unhide HBC)).2.2.2
      clear hb
      go_wp2_with fail
      refine (unhide HC _ (unhide HBC)).mono ?_
      rintro x w7 ⟨rfl, hb⟩
      have HBC := hide (below_then (unhide HBC) hb)
      have q0 := (unhide HKS _ (unhide HBC)).2.1
      clear hb
      go_wp2
      go_loopw [6] (fun i wr => i = .int .i64 0 ∧ wr = w7.alloc (.cells #[.bool n.leaf, .slice none 0 0, .slice none 0 0] 25)) (fun _ _ => 0)
      case atStart => exact ⟨rfl, rfl⟩
      case round =>
        obtain ⟨rfl, rfl⟩ := hrel
        go_wp2
        go_ret
        exact ⟨rfl, below_then (unhide HB) (below_then (unhide HBC) (below_alloc _ _))⟩
/- The walk of the law NodeSplits. -/
theorem splits_walk (n : Nd) (ai ak : Option Addr) (ci ck : Nat) (w : World) (hn : Has w n ai ak) (hl : Lens n) (hi : n.its.length ≤ ci) (hk : n.kds.length ≤ ck) :
    Calls Try.prog 7 #[.agg #[.bool n.leaf, .slice ai n.its.length ci, .slice ak n.kds.length ck]] w fun e w' => e = .returned (.bool true) ∧ Below w.heap.size w w' := by
  cases hr : rightB n with
  | false => exact splitsN n ai ak ci ck w hn hl hr
  | true =>
    obtain ⟨L, its, kds⟩ := n
    cases L with
    | true =>
      obtain ⟨rfl, _, _⟩ := right_leaf hr
      exact splitsI its ai ak ci ck w hn hl hi hr
    | false =>
      obtain ⟨rfl, _, _⟩ := right_kids hr
      exact splitsK kds ai ak ci ck w hn hl hk hr
end Go.Proofs.Ytepkifledonldaa
