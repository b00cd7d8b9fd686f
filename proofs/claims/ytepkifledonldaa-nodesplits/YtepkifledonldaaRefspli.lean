/- The document's Split. -/
import Derived.Test.YtepkifledonldaaRefmk
namespace Go.Proofs.Ytepkifledonldaa
open Go.ChangeShapes Go.WideShapes Go.ChangeAt Go.RowKit

set_option maxRecDepth 10000 in
set_option maxHeartbeats 8000000 in
theorem refSplitI (ai ak : Option Addr) (ci ck : Nat) (its : List It) (w : World) (hr : Row Value.string w ai its) (hl : its.length ≤ 1100) (hright : rightB ⟨true, its, []⟩ = true) :
    Calls Try.prog 22 #[.agg #[.bool true, .slice ai its.length ci, .slice ak 0 ck]] w fun e w' => ∃ a cap ps, e = .returned (.slice a ps.length cap) ∧ OwnP Value.string 47 pcI w.heap.size w' (.slice a ps.length cap) ps ∧ ps.map (fun x => x.l) = Cut.parts itL [] its ∧ Below w.heap.size w w' := by
  obtain ⟨_, hne, hrise⟩ := right_leaf hright
  have HMY := hide (rise_all _ _ hrise)
  have hb0 := below_alloc w (.cells #[.bool true, .slice ai its.length ci, .slice ak 0 ck] 25)
  have HI := hide (refRight_any ⟨true, its, []⟩ ai ak ci ck _ (⟨hr.grow hb0, .inl rfl⟩) (by first | exact Nat.zero_le _ | exact Nat.le_trans hl (by decide)) (by first | exact Nat.zero_le _ | exact Nat.le_trans hl (by decide)))
  rw [hright] at HI
  have HR := hide (hr.grow hb0)
  have HBW := hide hb0
  have HQ := hide (Nblk.new w true ai ak its.length ci 0 ck)
  clear hr hb0 hne hrise hright
  go_enter Try.func22, Try.ntmps22
  go_wp2_with fail
  obtain ⟨p, hp⟩ : ∃ y, y = w.heap.size := ⟨_, rfl⟩
  rw [← hp] at HQ ⊢
  clear hp
  generalize w.alloc (.cells #[.bool true, .slice ai its.length ci, .slice ak 0 ck] 25) = w0 at *
  refine (unhide HI).mono ?_
  rintro x w1 ⟨rfl, hb⟩
  have HB1 := hide (below_then (unhide HBW) hb)
  have HR1 := hide ((unhide HR).grow hb)
  have HQ1 := hide ((unhide HQ).below hb)
  have q0 := (unhide HQ1).cell0
  clear hb HI HR HQ HBW
  go_wp2
  go_loopw [3, 5] (fun v i wr => ∃ (k : Nat) (cur : List It) (ps : List (Pt ByteArray)) (a : Option Addr) (c : Nat) (b : Option Addr) (d : Nat), k ≤ its.length ∧ i = .int .i64 k ∧ StdI w1 its w1.heap.size k v cur ps a c b d wr) (fun _ i _ => its.length - (intOf i).toNat)
  case atStart => exact ⟨0, [], [], none, 0, none, 0, Nat.zero_le _, rfl, StdI.start w1 its⟩
  case round =>
    obtain ⟨k, cur, ps, a, c, b, d, hk, rfl, hst⟩ := hrel
    have HST := hide hst
    obtain ⟨av, capv, rfl⟩ := hst.out.form
    have hbw := hst.bel
    have hNB := (unhide HQ1).below hbw
    have q0 := hNB.cell0
    have q1 := hNB.cell1
    have q2 := hNB.cell2
    have e0 := hst.one.cell0
    have e1 := hst.one.cell1
    have e2 := hst.one.cell2
    have hcl := hst.cl
    have hfew := hst.few
    have hq1 : w1.heap.size < wr.heap.size := hst.one.lt
    have hpq : p < w1.heap.size := (unhide HQ1).lt
    have HBW := hide hbw
    clear hst hNB hbw
    obtain ⟨q, hq⟩ : ∃ y, y = w1.heap.size := ⟨_, rfl⟩
    rw [← hq] at HST hq1 hpq e0 e1 e2 ⊢
    have HQE := hide hq
    clear hq
    by_cases hlt : k < its.length
    · obtain ⟨ba, off, rfl, hrow⟩ := (unhide HR1).at hlt
      obtain ⟨⟨key, val⟩, hx⟩ := get_some hlt
      have r0 := cell_keep_of (unhide HBW) (hrow k _ hx).1
      have r1 := cell_keep_of (unhide HBW) (hrow k _ hx).2
      simp only at r0 r1
      have HX := hide hx
      have HMX := hide (unhide HMY (key, val) (List.mem_of_getElem? hx))
      clear hx hrow
      have i1 : (k : Int) < (its.length : Int) := by omega
      have HKM := hide (fun (w' : World) (h : Below wr.heap.size wr w') => (⟨h, (h.cell (p := ⟨p, 0, none⟩) (Nat.lt_trans hpq hq1)).trans q0, (h.cell (p := ⟨q, 1, none⟩) hq1).trans e1, (h.cell (p := ⟨q, 2, none⟩) hq1).trans e2⟩ : Below wr.heap.size wr w' ∧ w'.cell? ⟨p, 0, none⟩ = some (.bool true) ∧ w'.cell? ⟨q, 1, none⟩ = some (.slice a cur.length c) ∧ w'.cell? ⟨q, 2, none⟩ = some (.slice b 0 d)))
      have hba : ba < wr.heap.size := World.block_lt_of_cell? _ _ r0
      have HKS := hide (fun (w' : World) (h : Below wr.heap.size wr w') => (⟨h, (h.cell (p := ⟨p, 1, none⟩) (Nat.lt_trans hpq hq1)).trans q1, (h.cell (p := ⟨ba, off + k * 2, none⟩) hba).trans r0, (h.cell (p := ⟨ba, off + k * 2 + 1, none⟩) hba).trans r1⟩ : Below wr.heap.size wr w' ∧ w'.cell? ⟨p, 1, none⟩ = some (.slice (some ⟨ba, off, none⟩) its.length ci) ∧ w'.cell? ⟨ba, off + k * 2, none⟩ = some (.string key) ∧ w'.cell? ⟨ba, off + k * 2 + 1, none⟩ = some (Value.string val)))
      go_wp2_with fail
      go_cut [6] (fun s6 wc => ∃ m, s6 = .pointer (some ⟨m, 0, none⟩) ∧ Made wr m true cur [] wc)
      case first =>
        have t1 := (unhide HST).two.i
        have t2 := (unhide HST).two.k
        have H := Mk8.start wr cur []
        refine wp_region_noPanic ?_
        refine wp_region_held_drew (S := fun w' => Below wr.heap.size wr w' ∧ w'.cell? ⟨p, 0, none⟩ = some (.bool true) ∧ w'.cell? ⟨q, 1, none⟩ = some (.slice a cur.length c) ∧ w'.cell? ⟨q, 2, none⟩ = some (.slice b 0 d)) (by kernel_rfl) (unhide HKM _ H.bel) (fun hHeld => ?_)
        refine takeY 0 (some 25) ?_ rfl rfl (by kernel_rfl) (by kernel_rfl) (by kernel_rfl) (fun _ _ _ h => h) (by rfl) ?_ hHeld ?_
        rotate_left
        · intro w hSw; (try dsimp only at hSw); go_simp <;> with_reducible rfl
        simp only [Act.put, List.setIfInBounds_toArray, List.set_cons_zero, List.set_cons_succ]
        refine takeY 1 (some 26) ?_ rfl rfl (by kernel_rfl) (by kernel_rfl) (by kernel_rfl) (fun _ _ _ h => h) (by rfl) ?_ hHeld ?_
        rotate_left
        · intro w hSw; (try dsimp only at hSw); go_simp <;> with_reducible rfl
        simp only [Act.put, List.setIfInBounds_toArray, List.set_cons_zero, List.set_cons_succ]
        refine takeY 3 (some 28) ?_ rfl rfl (by kernel_rfl) (by kernel_rfl) (by kernel_rfl) (fun _ _ _ h => h) (by rfl) ?_ hHeld ?_
        rotate_left
        · intro w hSw; (try dsimp only at hSw); go_simp <;> with_reducible rfl
        simp only [Act.put, List.setIfInBounds_toArray, List.set_cons_zero, List.set_cons_succ]
        refine takeY 4 (some 29) ?_ rfl rfl (by kernel_rfl) (by kernel_rfl) (by kernel_rfl) (fun _ _ _ h => h) (by rfl) ?_ hHeld ?_
        rotate_left
        · intro w hSw; (try dsimp only at hSw); go_simp <;> with_reducible rfl
        simp only [Act.put, List.setIfInBounds_toArray, List.set_cons_zero, List.set_cons_succ]
        refine takeY 7 (some 32) ?_ rfl rfl (by kernel_rfl) (by kernel_rfl) (by kernel_rfl) (fun _ _ _ h => h) (by rfl) ?_ hHeld ?_
        rotate_left
        · intro w hSw; (try dsimp only at hSw); go_simp <;> with_reducible rfl
        simp only [Act.put, List.setIfInBounds_toArray, List.set_cons_zero, List.set_cons_succ]
        refine takeY 8 (some 33) ?_ rfl rfl (by kernel_rfl) (by kernel_rfl) (by kernel_rfl) (fun _ _ _ h => h) (by rfl) ?_ hHeld ?_
        rotate_left
        · intro w hSw; (try dsimp only at hSw); go_simp <;> with_reducible rfl
        simp only [Act.put, List.setIfInBounds_toArray, List.set_cons_zero, List.set_cons_succ]
        obtain ⟨wX, hwX⟩ : ∃ y, y = wr.drew := ⟨_, rfl⟩
        rw [← hwX] at H hHeld ⊢
        clear hwX
        refine wpAnyH_ready (rs := [2, 6, 11]) (by kernel_rfl) (by simp) ?_
        refine AllReadyH.cons rfl (fun K hK => ?_) (AllReadyH.cons rfl (fun K hK => ?_) (AllReadyH.cons rfl (fun K hK => ?_) AllReadyH.nil))
        · go_simp
          replace H := H.allocG
          refine hK.out _ _ (unhide HKM _ H.bel) (fun hHeld => ?_)
          clear hK K
          try simp only [Act.put, List.setIfInBounds_toArray, List.set_cons_zero, List.set_cons_succ]
          obtain ⟨g2, hnm⟩ : ∃ y, y = wX.heap.size := ⟨_, rfl⟩
          rw [← hnm] at H ⊢
          clear hnm
          generalize wX.alloc (.cells #[] 47) = wX at H hHeld ⊢
          refine wpAnyH_ready (rs := [5, 6, 11]) (by kernel_rfl) (by simp) ?_
          refine AllReadyH.cons rfl (fun K hK => ?_) (AllReadyH.cons rfl (fun K hK => ?_) (AllReadyH.cons rfl (fun K hK => ?_) AllReadyH.nil))
          · refine step_its t1 (by first | omega | simp) rfl _ _ rfl rfl rfl H.bel (H.g _ rfl).1 (H.g _ rfl).2 ?_
            intro aA capA wX WA
            replace H := H.app5 WA
            refine hK.out _ _ (unhide HKM _ H.bel) (fun hHeld => ?_)
            clear hK K
            try simp only [Act.put, List.setIfInBounds_toArray]
            clear WA
            refine wpAnyH_ready (rs := [6, 11]) (by kernel_rfl) (by simp) ?_
            refine AllReadyH.cons rfl (fun K hK => ?_) (AllReadyH.cons rfl (fun K hK => ?_) AllReadyH.nil)
            · go_simp
              replace H := H.allocK
              refine hK.out _ _ (unhide HKM _ H.bel) (fun hHeld => ?_)
              clear hK K
              try simp only [Act.put, List.setIfInBounds_toArray, List.set_cons_zero, List.set_cons_succ]
              obtain ⟨g6, hnm⟩ : ∃ y, y = wX.heap.size := ⟨_, rfl⟩
              rw [← hnm] at H ⊢
              clear hnm
              generalize wX.alloc (.cells #[] 49) = wX at H hHeld ⊢
              refine wpAnyH_ready (rs := [9, 11]) (by kernel_rfl) (by simp) ?_
              refine AllReadyH.cons rfl (fun K hK => ?_) (AllReadyH.cons rfl (fun K hK => ?_) AllReadyH.nil)
              · refine step_kds t2 (by first | omega | simp) rfl _ _ rfl rfl rfl H.bel (H.k _ rfl).1 (H.k _ rfl).2 ?_
                intro aB capB wX WB
                replace H := H.app9 WB
                refine hK.out _ _ (unhide HKM _ H.bel) (fun hHeld => ?_)
                clear hK K
                try simp only [Act.put, List.setIfInBounds_toArray]
                clear WB
                refine takeY 10 (some 35) ?_ rfl rfl (by kernel_rfl) (by kernel_rfl) (by kernel_rfl) (fun _ _ _ h => h) (by rfl) ?_ hHeld ?_
                rotate_left
                · intro w hSw; (try dsimp only at hSw); go_simp <;> with_reducible rfl
                simp only [Act.put]
                refine wpAnyH_ready (rs := [11]) (by kernel_rfl) (by simp) ?_
                refine AllReadyH.cons rfl (fun K hK => ?_) AllReadyH.nil
                · go_simp
                  replace H := H.allocM
                  refine hK.out _ _ (unhide HKM _ H.bel) (fun hHeld => ?_)
                  clear hK K
                  try simp only [Act.put, List.setIfInBounds_toArray, List.set_cons_zero, List.set_cons_succ]
                  obtain ⟨m, hnm⟩ : ∃ y, y = wX.heap.size := ⟨_, rfl⟩
                  rw [← hnm] at H ⊢
                  clear hnm
                  generalize wX.alloc (.cells #[.bool false, .slice none 0 0, .slice none 0 0] 25) = wX at H hHeld ⊢
                  have f0 := (H.m _ rfl).1.cell0
                  have f1 := (H.m _ rfl).1.cell1
                  have f2 := (H.m _ rfl).1.cell2
                  have z0 := (H.m _ rfl).1.free 0
                  have z1 := (H.m _ rfl).1.free 1
                  have z2 := (H.m _ rfl).1.free 2
                  have hmk := Mk8.made true H
                  refine wpAnyH_ready (rs := [12]) (by kernel_rfl) (by simp) ?_
                  refine AllReadyH.cons rfl (fun K hK => ?_) AllReadyH.nil
                  go_simp
                  refine hK.out _ _ (unhide HKM _ hmk.bel) (fun hHeld => ?_)
                  clear hK K
                  try simp only [Act.put]
                  refine wpAnyH_done (by kernel_rfl) ?_ _
                  refine NoPanic.normal ?_
                  go_wp2_with fail
                  go_meet
                  exact ⟨_, rfl, hmk⟩
              · go_simp
                replace H := H.allocM
                refine hK.out _ _ (unhide HKM _ H.bel) (fun hHeld => ?_)
                clear hK K
                try simp only [Act.put, List.setIfInBounds_toArray, List.set_cons_zero, List.set_cons_succ]
                obtain ⟨m, hnm⟩ : ∃ y, y = wX.heap.size := ⟨_, rfl⟩
                rw [← hnm] at H ⊢
                clear hnm
                generalize wX.alloc (.cells #[.bool false, .slice none 0 0, .slice none 0 0] 25) = wX at H hHeld ⊢
                refine wpAnyH_ready (rs := [9]) (by kernel_rfl) (by simp) ?_
                refine AllReadyH.cons rfl (fun K hK => ?_) AllReadyH.nil
                · refine step_kds t2 (by first | omega | simp) rfl _ _ rfl rfl rfl H.bel (H.k _ rfl).1 (H.k _ rfl).2 ?_
                  intro aB capB wX WB
                  replace H := H.app9 WB
                  refine hK.out _ _ (unhide HKM _ H.bel) (fun hHeld => ?_)
                  clear hK K
                  try simp only [Act.put, List.setIfInBounds_toArray]
                  clear WB
                  refine takeY 10 (some 35) ?_ rfl rfl (by kernel_rfl) (by kernel_rfl) (by kernel_rfl) (fun _ _ _ h => h) (by rfl) ?_ hHeld ?_
                  rotate_left
                  · intro w hSw; (try dsimp only at hSw); go_simp <;> with_reducible rfl
                  simp only [Act.put]
                  have f0 := (H.m _ rfl).1.cell0
                  have f1 := (H.m _ rfl).1.cell1
                  have f2 := (H.m _ rfl).1.cell2
                  have z0 := (H.m _ rfl).1.free 0
                  have z1 := (H.m _ rfl).1.free 1
                  have z2 := (H.m _ rfl).1.free 2
                  have hmk := Mk8.made true H
                  refine wpAnyH_ready (rs := [12]) (by kernel_rfl) (by simp) ?_
                  refine AllReadyH.cons rfl (fun K hK => ?_) AllReadyH.nil
                  go_simp
                  refine hK.out _ _ (unhide HKM _ hmk.bel) (fun hHeld => ?_)
                  clear hK K
                  try simp only [Act.put]
                  refine wpAnyH_done (by kernel_rfl) ?_ _
                  refine NoPanic.normal ?_
                  go_wp2_with fail
                  go_meet
                  exact ⟨_, rfl, hmk⟩
            · go_simp
              replace H := H.allocM
              refine hK.out _ _ (unhide HKM _ H.bel) (fun hHeld => ?_)
              clear hK K
              try simp only [Act.put, List.setIfInBounds_toArray, List.set_cons_zero, List.set_cons_succ]
              obtain ⟨m, hnm⟩ : ∃ y, y = wX.heap.size := ⟨_, rfl⟩
              rw [← hnm] at H ⊢
              clear hnm
              generalize wX.alloc (.cells #[.bool false, .slice none 0 0, .slice none 0 0] 25) = wX at H hHeld ⊢
              refine wpAnyH_ready (rs := [6]) (by kernel_rfl) (by simp) ?_
              refine AllReadyH.cons rfl (fun K hK => ?_) AllReadyH.nil
              · go_simp
                replace H := H.allocK
                refine hK.out _ _ (unhide HKM _ H.bel) (fun hHeld => ?_)
                clear hK K
                try simp only [Act.put, List.setIfInBounds_toArray, List.set_cons_zero, List.set_cons_succ]
                obtain ⟨g6, hnm⟩ : ∃ y, y = wX.heap.size := ⟨_, rfl⟩
                rw [← hnm] at H ⊢
                clear hnm
                generalize wX.alloc (.cells #[] 49) = wX at H hHeld ⊢
                refine wpAnyH_ready (rs := [9]) (by kernel_rfl) (by simp) ?_
                refine AllReadyH.cons rfl (fun K hK => ?_) AllReadyH.nil
                · refine step_kds t2 (by first | omega | simp) rfl _ _ rfl rfl rfl H.bel (H.k _ rfl).1 (H.k _ rfl).2 ?_
                  intro aB capB wX WB
                  replace H := H.app9 WB
                  refine hK.out _ _ (unhide HKM _ H.bel) (fun hHeld => ?_)
                  clear hK K
                  try simp only [Act.put, List.setIfInBounds_toArray]
                  clear WB
                  refine takeY 10 (some 35) ?_ rfl rfl (by kernel_rfl) (by kernel_rfl) (by kernel_rfl) (fun _ _ _ h => h) (by rfl) ?_ hHeld ?_
                  rotate_left
                  · intro w hSw; (try dsimp only at hSw); go_simp <;> with_reducible rfl
                  simp only [Act.put]
                  have f0 := (H.m _ rfl).1.cell0
                  have f1 := (H.m _ rfl).1.cell1
                  have f2 := (H.m _ rfl).1.cell2
                  have z0 := (H.m _ rfl).1.free 0
                  have z1 := (H.m _ rfl).1.free 1
                  have z2 := (H.m _ rfl).1.free 2
                  have hmk := Mk8.made true H
                  refine wpAnyH_ready (rs := [12]) (by kernel_rfl) (by simp) ?_
                  refine AllReadyH.cons rfl (fun K hK => ?_) AllReadyH.nil
                  go_simp
                  refine hK.out _ _ (unhide HKM _ hmk.bel) (fun hHeld => ?_)
                  clear hK K
                  try simp only [Act.put]
                  refine wpAnyH_done (by kernel_rfl) ?_ _
                  refine NoPanic.normal ?_
                  go_wp2_with fail
                  go_meet
                  exact ⟨_, rfl, hmk⟩
          · go_simp
            replace H := H.allocK
            refine hK.out _ _ (unhide HKM _ H.bel) (fun hHeld => ?_)
            clear hK K
            try simp only [Act.put, List.setIfInBounds_toArray, List.set_cons_zero, List.set_cons_succ]
            obtain ⟨g6, hnm⟩ : ∃ y, y = wX.heap.size := ⟨_, rfl⟩
            rw [← hnm] at H ⊢
            clear hnm
            generalize wX.alloc (.cells #[] 49) = wX at H hHeld ⊢
            refine wpAnyH_ready (rs := [5, 11]) (by kernel_rfl) (by simp) ?_
            refine AllReadyH.cons rfl (fun K hK => ?_) (AllReadyH.cons rfl (fun K hK => ?_) AllReadyH.nil)
            · refine step_its t1 (by first | omega | simp) rfl _ _ rfl rfl rfl H.bel (H.g _ rfl).1 (H.g _ rfl).2 ?_
              intro aA capA wX WA
              replace H := H.app5 WA
              refine hK.out _ _ (unhide HKM _ H.bel) (fun hHeld => ?_)
              clear hK K
              try simp only [Act.put, List.setIfInBounds_toArray]
              clear WA
              refine wpAnyH_ready (rs := [9, 11]) (by kernel_rfl) (by simp) ?_
              refine AllReadyH.cons rfl (fun K hK => ?_) (AllReadyH.cons rfl (fun K hK => ?_) AllReadyH.nil)
              · refine step_kds t2 (by first | omega | simp) rfl _ _ rfl rfl rfl H.bel (H.k _ rfl).1 (H.k _ rfl).2 ?_
                intro aB capB wX WB
                replace H := H.app9 WB
                refine hK.out _ _ (unhide HKM _ H.bel) (fun hHeld => ?_)
                clear hK K
                try simp only [Act.put]
                clear WB
                refine takeY 10 (some 35) ?_ rfl rfl (by kernel_rfl) (by kernel_rfl) (by kernel_rfl) (fun _ _ _ h => h) (by rfl) ?_ hHeld ?_
                rotate_left
                · intro w hSw; (try dsimp only at hSw); go_simp <;> with_reducible rfl
                simp only [Act.put]
                refine wpAnyH_ready (rs := [11]) (by kernel_rfl) (by simp) ?_
                refine AllReadyH.cons rfl (fun K hK => ?_) AllReadyH.nil
                · go_simp
                  replace H := H.allocM
                  refine hK.out _ _ (unhide HKM _ H.bel) (fun hHeld => ?_)
                  clear hK K
                  try simp only [Act.put, List.setIfInBounds_toArray, List.set_cons_zero, List.set_cons_succ]
                  obtain ⟨m, hnm⟩ : ∃ y, y = wX.heap.size := ⟨_, rfl⟩
                  rw [← hnm] at H ⊢
                  clear hnm
                  generalize wX.alloc (.cells #[.bool false, .slice none 0 0, .slice none 0 0] 25) = wX at H hHeld ⊢
                  have f0 := (H.m _ rfl).1.cell0
                  have f1 := (H.m _ rfl).1.cell1
                  have f2 := (H.m _ rfl).1.cell2
                  have z0 := (H.m _ rfl).1.free 0
                  have z1 := (H.m _ rfl).1.free 1
                  have z2 := (H.m _ rfl).1.free 2
                  have hmk := Mk8.made true H
                  refine wpAnyH_ready (rs := [12]) (by kernel_rfl) (by simp) ?_
                  refine AllReadyH.cons rfl (fun K hK => ?_) AllReadyH.nil
                  go_simp
                  refine hK.out _ _ (unhide HKM _ hmk.bel) (fun hHeld => ?_)
                  clear hK K
                  try simp only [Act.put]
                  refine wpAnyH_done (by kernel_rfl) ?_ _
                  refine NoPanic.normal ?_
                  go_wp2_with fail
                  go_meet
                  exact ⟨_, rfl, hmk⟩
              · go_simp
                replace H := H.allocM
                refine hK.out _ _ (unhide HKM _ H.bel) (fun hHeld => ?_)
                clear hK K
                try simp only [Act.put, List.setIfInBounds_toArray, List.set_cons_zero, List.set_cons_succ]
                obtain ⟨m, hnm⟩ : ∃ y, y = wX.heap.size := ⟨_, rfl⟩
                rw [← hnm] at H ⊢
                clear hnm
                generalize wX.alloc (.cells #[.bool false, .slice none 0 0, .slice none 0 0] 25) = wX at H hHeld ⊢
                refine wpAnyH_ready (rs := [9]) (by kernel_rfl) (by simp) ?_
                refine AllReadyH.cons rfl (fun K hK => ?_) AllReadyH.nil
                · refine step_kds t2 (by first | omega | simp) rfl _ _ rfl rfl rfl H.bel (H.k _ rfl).1 (H.k _ rfl).2 ?_
                  intro aB capB wX WB
                  replace H := H.app9 WB
                  refine hK.out _ _ (unhide HKM _ H.bel) (fun hHeld => ?_)
                  clear hK K
                  try simp only [Act.put, List.setIfInBounds_toArray]
                  clear WB
                  refine takeY 10 (some 35) ?_ rfl rfl (by kernel_rfl) (by kernel_rfl) (by kernel_rfl) (fun _ _ _ h => h) (by rfl) ?_ hHeld ?_
                  rotate_left
                  · intro w hSw; (try dsimp only at hSw); go_simp <;> with_reducible rfl
                  simp only [Act.put]
                  have f0 := (H.m _ rfl).1.cell0
                  have f1 := (H.m _ rfl).1.cell1
                  have f2 := (H.m _ rfl).1.cell2
                  have z0 := (H.m _ rfl).1.free 0
                  have z1 := (H.m _ rfl).1.free 1
                  have z2 := (H.m _ rfl).1.free 2
                  have hmk := Mk8.made true H
                  refine wpAnyH_ready (rs := [12]) (by kernel_rfl) (by simp) ?_
                  refine AllReadyH.cons rfl (fun K hK => ?_) AllReadyH.nil
                  go_simp
                  refine hK.out _ _ (unhide HKM _ hmk.bel) (fun hHeld => ?_)
                  clear hK K
                  try simp only [Act.put]
                  refine wpAnyH_done (by kernel_rfl) ?_ _
                  refine NoPanic.normal ?_
                  go_wp2_with fail
                  go_meet
                  exact ⟨_, rfl, hmk⟩
            · go_simp
              replace H := H.allocM
              refine hK.out _ _ (unhide HKM _ H.bel) (fun hHeld => ?_)
              clear hK K
              try simp only [Act.put, List.setIfInBounds_toArray, List.set_cons_zero, List.set_cons_succ]
              obtain ⟨m, hnm⟩ : ∃ y, y = wX.heap.size := ⟨_, rfl⟩
              rw [← hnm] at H ⊢
              clear hnm
              generalize wX.alloc (.cells #[.bool false, .slice none 0 0, .slice none 0 0] 25) = wX at H hHeld ⊢
              refine wpAnyH_ready (rs := [5]) (by kernel_rfl) (by simp) ?_
              refine AllReadyH.cons rfl (fun K hK => ?_) AllReadyH.nil
              · refine step_its t1 (by first | omega | simp) rfl _ _ rfl rfl rfl H.bel (H.g _ rfl).1 (H.g _ rfl).2 ?_
                intro aA capA wX WA
                replace H := H.app5 WA
                refine hK.out _ _ (unhide HKM _ H.bel) (fun hHeld => ?_)
                clear hK K
                try simp only [Act.put, List.setIfInBounds_toArray]
                clear WA
                refine wpAnyH_ready (rs := [9]) (by kernel_rfl) (by simp) ?_
                refine AllReadyH.cons rfl (fun K hK => ?_) AllReadyH.nil
                · refine step_kds t2 (by first | omega | simp) rfl _ _ rfl rfl rfl H.bel (H.k _ rfl).1 (H.k _ rfl).2 ?_
                  intro aB capB wX WB
                  replace H := H.app9 WB
                  refine hK.out _ _ (unhide HKM _ H.bel) (fun hHeld => ?_)
                  clear hK K
                  try simp only [Act.put]
                  clear WB
                  refine takeY 10 (some 35) ?_ rfl rfl (by kernel_rfl) (by kernel_rfl) (by kernel_rfl) (fun _ _ _ h => h) (by rfl) ?_ hHeld ?_
                  rotate_left
                  · intro w hSw; (try dsimp only at hSw); go_simp <;> with_reducible rfl
                  simp only [Act.put]
                  have f0 := (H.m _ rfl).1.cell0
                  have f1 := (H.m _ rfl).1.cell1
                  have f2 := (H.m _ rfl).1.cell2
                  have z0 := (H.m _ rfl).1.free 0
                  have z1 := (H.m _ rfl).1.free 1
                  have z2 := (H.m _ rfl).1.free 2
                  have hmk := Mk8.made true H
                  refine wpAnyH_ready (rs := [12]) (by kernel_rfl) (by simp) ?_
                  refine AllReadyH.cons rfl (fun K hK => ?_) AllReadyH.nil
                  go_simp
                  refine hK.out _ _ (unhide HKM _ hmk.bel) (fun hHeld => ?_)
                  clear hK K
                  try simp only [Act.put]
                  refine wpAnyH_done (by kernel_rfl) ?_ _
                  refine NoPanic.normal ?_
                  go_wp2_with fail
                  go_meet
                  exact ⟨_, rfl, hmk⟩
          · go_simp
            replace H := H.allocM
            refine hK.out _ _ (unhide HKM _ H.bel) (fun hHeld => ?_)
            clear hK K
            try simp only [Act.put, List.setIfInBounds_toArray, List.set_cons_zero, List.set_cons_succ]
            obtain ⟨m, hnm⟩ : ∃ y, y = wX.heap.size := ⟨_, rfl⟩
            rw [← hnm] at H ⊢
            clear hnm
            generalize wX.alloc (.cells #[.bool false, .slice none 0 0, .slice none 0 0] 25) = wX at H hHeld ⊢
            refine wpAnyH_ready (rs := [5, 6]) (by kernel_rfl) (by simp) ?_
            refine AllReadyH.cons rfl (fun K hK => ?_) (AllReadyH.cons rfl (fun K hK => ?_) AllReadyH.nil)
            · refine step_its t1 (by first | omega | simp) rfl _ _ rfl rfl rfl H.bel (H.g _ rfl).1 (H.g _ rfl).2 ?_
              intro aA capA wX WA
              replace H := H.app5 WA
              refine hK.out _ _ (unhide HKM _ H.bel) (fun hHeld => ?_)
              clear hK K
              try simp only [Act.put, List.setIfInBounds_toArray]
              clear WA
              refine wpAnyH_ready (rs := [6]) (by kernel_rfl) (by simp) ?_
              refine AllReadyH.cons rfl (fun K hK => ?_) AllReadyH.nil
              · go_simp
                replace H := H.allocK
                refine hK.out _ _ (unhide HKM _ H.bel) (fun hHeld => ?_)
                clear hK K
                try simp only [Act.put, List.setIfInBounds_toArray, List.set_cons_zero, List.set_cons_succ]
                obtain ⟨g6, hnm⟩ : ∃ y, y = wX.heap.size := ⟨_, rfl⟩
                rw [← hnm] at H ⊢
                clear hnm
                generalize wX.alloc (.cells #[] 49) = wX at H hHeld ⊢
                refine wpAnyH_ready (rs := [9]) (by kernel_rfl) (by simp) ?_
                refine AllReadyH.cons rfl (fun K hK => ?_) AllReadyH.nil
                · refine step_kds t2 (by first | omega | simp) rfl _ _ rfl rfl rfl H.bel (H.k _ rfl).1 (H.k _ rfl).2 ?_
                  intro aB capB wX WB
                  replace H := H.app9 WB
                  refine hK.out _ _ (unhide HKM _ H.bel) (fun hHeld => ?_)
                  clear hK K
                  try simp only [Act.put, List.setIfInBounds_toArray]
                  clear WB
                  refine takeY 10 (some 35) ?_ rfl rfl (by kernel_rfl) (by kernel_rfl) (by kernel_rfl) (fun _ _ _ h => h) (by rfl) ?_ hHeld ?_
                  rotate_left
                  · intro w hSw; (try dsimp only at hSw); go_simp <;> with_reducible rfl
                  simp only [Act.put]
                  have f0 := (H.m _ rfl).1.cell0
                  have f1 := (H.m _ rfl).1.cell1
                  have f2 := (H.m _ rfl).1.cell2
                  have z0 := (H.m _ rfl).1.free 0
                  have z1 := (H.m _ rfl).1.free 1
                  have z2 := (H.m _ rfl).1.free 2
                  have hmk := Mk8.made true H
                  refine wpAnyH_ready (rs := [12]) (by kernel_rfl) (by simp) ?_
                  refine AllReadyH.cons rfl (fun K hK => ?_) AllReadyH.nil
                  go_simp
                  refine hK.out _ _ (unhide HKM _ hmk.bel) (fun hHeld => ?_)
                  clear hK K
                  try simp only [Act.put]
                  refine wpAnyH_done (by kernel_rfl) ?_ _
                  refine NoPanic.normal ?_
                  go_wp2_with fail
                  go_meet
                  exact ⟨_, rfl, hmk⟩
            · go_simp
              replace H := H.allocK
              refine hK.out _ _ (unhide HKM _ H.bel) (fun hHeld => ?_)
              clear hK K
              try simp only [Act.put, List.setIfInBounds_toArray, List.set_cons_zero, List.set_cons_succ]
              obtain ⟨g6, hnm⟩ : ∃ y, y = wX.heap.size := ⟨_, rfl⟩
              rw [← hnm] at H ⊢
              clear hnm
              generalize wX.alloc (.cells #[] 49) = wX at H hHeld ⊢
              refine wpAnyH_ready (rs := [5]) (by kernel_rfl) (by simp) ?_
              refine AllReadyH.cons rfl (fun K hK => ?_) AllReadyH.nil
              · refine step_its t1 (by first | omega | simp) rfl _ _ rfl rfl rfl H.bel (H.g _ rfl).1 (H.g _ rfl).2 ?_
                intro aA capA wX WA
                replace H := H.app5 WA
                refine hK.out _ _ (unhide HKM _ H.bel) (fun hHeld => ?_)
                clear hK K
                try simp only [Act.put, List.setIfInBounds_toArray]
                clear WA
                refine wpAnyH_ready (rs := [9]) (by kernel_rfl) (by simp) ?_
                refine AllReadyH.cons rfl (fun K hK => ?_) AllReadyH.nil
                · refine step_kds t2 (by first | omega | simp) rfl _ _ rfl rfl rfl H.bel (H.k _ rfl).1 (H.k _ rfl).2 ?_
                  intro aB capB wX WB
                  replace H := H.app9 WB
                  refine hK.out _ _ (unhide HKM _ H.bel) (fun hHeld => ?_)
                  clear hK K
                  try simp only [Act.put]
                  clear WB
                  refine takeY 10 (some 35) ?_ rfl rfl (by kernel_rfl) (by kernel_rfl) (by kernel_rfl) (fun _ _ _ h => h) (by rfl) ?_ hHeld ?_
                  rotate_left
                  · intro w hSw; (try dsimp only at hSw); go_simp <;> with_reducible rfl
                  simp only [Act.put]
                  have f0 := (H.m _ rfl).1.cell0
                  have f1 := (H.m _ rfl).1.cell1
                  have f2 := (H.m _ rfl).1.cell2
                  have z0 := (H.m _ rfl).1.free 0
                  have z1 := (H.m _ rfl).1.free 1
                  have z2 := (H.m _ rfl).1.free 2
                  have hmk := Mk8.made true H
                  refine wpAnyH_ready (rs := [12]) (by kernel_rfl) (by simp) ?_
                  refine AllReadyH.cons rfl (fun K hK => ?_) AllReadyH.nil
                  go_simp
                  refine hK.out _ _ (unhide HKM _ hmk.bel) (fun hHeld => ?_)
                  clear hK K
                  try simp only [Act.put]
                  refine wpAnyH_done (by kernel_rfl) ?_ _
                  refine NoPanic.normal ?_
                  go_wp2_with fail
                  go_meet
                  exact ⟨_, rfl, hmk⟩
        · go_simp
          replace H := H.allocK
          refine hK.out _ _ (unhide HKM _ H.bel) (fun hHeld => ?_)
          clear hK K
          try simp only [Act.put, List.setIfInBounds_toArray, List.set_cons_zero, List.set_cons_succ]
          obtain ⟨g6, hnm⟩ : ∃ y, y = wX.heap.size := ⟨_, rfl⟩
          rw [← hnm] at H ⊢
          clear hnm
          generalize wX.alloc (.cells #[] 49) = wX at H hHeld ⊢
          refine wpAnyH_ready (rs := [2, 11]) (by kernel_rfl) (by simp) ?_
          refine AllReadyH.cons rfl (fun K hK => ?_) (AllReadyH.cons rfl (fun K hK => ?_) AllReadyH.nil)
          · go_simp
            replace H := H.allocG
            refine hK.out _ _ (unhide HKM _ H.bel) (fun hHeld => ?_)
            clear hK K
            try simp only [Act.put, List.setIfInBounds_toArray, List.set_cons_zero, List.set_cons_succ]
            obtain ⟨g2, hnm⟩ : ∃ y, y = wX.heap.size := ⟨_, rfl⟩
            rw [← hnm] at H ⊢
            clear hnm
            generalize wX.alloc (.cells #[] 47) = wX at H hHeld ⊢
            refine wpAnyH_ready (rs := [5, 11]) (by kernel_rfl) (by simp) ?_
            refine AllReadyH.cons rfl (fun K hK => ?_) (AllReadyH.cons rfl (fun K hK => ?_) AllReadyH.nil)
            · refine step_its t1 (by first | omega | simp) rfl _ _ rfl rfl rfl H.bel (H.g _ rfl).1 (H.g _ rfl).2 ?_
              intro aA capA wX WA
              replace H := H.app5 WA
              refine hK.out _ _ (unhide HKM _ H.bel) (fun hHeld => ?_)
              clear hK K
              try simp only [Act.put, List.setIfInBounds_toArray]
              clear WA
              refine wpAnyH_ready (rs := [9, 11]) (by kernel_rfl) (by simp) ?_
              refine AllReadyH.cons rfl (fun K hK => ?_) (AllReadyH.cons rfl (fun K hK => ?_) AllReadyH.nil)
              · refine step_kds t2 (by first | omega | simp) rfl _ _ rfl rfl rfl H.bel (H.k _ rfl).1 (H.k _ rfl).2 ?_
                intro aB capB wX WB
                replace H := H.app9 WB
                refine hK.out _ _ (unhide HKM _ H.bel) (fun hHeld => ?_)
                clear hK K
                try simp only [Act.put]
                clear WB
                refine takeY 10 (some 35) ?_ rfl rfl (by kernel_rfl) (by kernel_rfl) (by kernel_rfl) (fun _ _ _ h => h) (by rfl) ?_ hHeld ?_
                rotate_left
                · intro w hSw; (try dsimp only at hSw); go_simp <;> with_reducible rfl
                simp only [Act.put]
                refine wpAnyH_ready (rs := [11]) (by kernel_rfl) (by simp) ?_
                refine AllReadyH.cons rfl (fun K hK => ?_) AllReadyH.nil
                · go_simp
                  replace H := H.allocM
                  refine hK.out _ _ (unhide HKM _ H.bel) (fun hHeld => ?_)
                  clear hK K
                  try simp only [Act.put, List.setIfInBounds_toArray, List.set_cons_zero, List.set_cons_succ]
                  obtain ⟨m, hnm⟩ : ∃ y, y = wX.heap.size := ⟨_, rfl⟩
                  rw [← hnm] at H ⊢
                  clear hnm
                  generalize wX.alloc (.cells #[.bool false, .slice none 0 0, .slice none 0 0] 25) = wX at H hHeld ⊢
                  have f0 := (H.m _ rfl).1.cell0
                  have f1 := (H.m _ rfl).1.cell1
                  have f2 := (H.m _ rfl).1.cell2
                  have z0 := (H.m _ rfl).1.free 0
                  have z1 := (H.m _ rfl).1.free 1
                  have z2 := (H.m _ rfl).1.free 2
                  have hmk := Mk8.made true H
                  refine wpAnyH_ready (rs := [12]) (by kernel_rfl) (by simp) ?_
                  refine AllReadyH.cons rfl (fun K hK => ?_) AllReadyH.nil
                  go_simp
                  refine hK.out _ _ (unhide HKM _ hmk.bel) (fun hHeld => ?_)
                  clear hK K
                  try simp only [Act.put]
                  refine wpAnyH_done (by kernel_rfl) ?_ _
                  refine NoPanic.normal ?_
                  go_wp2_with fail
                  go_meet
                  exact ⟨_, rfl, hmk⟩
              · go_simp
                replace H := H.allocM
                refine hK.out _ _ (unhide HKM _ H.bel) (fun hHeld => ?_)
                clear hK K
                try simp only [Act.put, List.setIfInBounds_toArray, List.set_cons_zero, List.set_cons_succ]
                obtain ⟨m, hnm⟩ : ∃ y, y = wX.heap.size := ⟨_, rfl⟩
                rw [← hnm] at H ⊢
                clear hnm
                generalize wX.alloc (.cells #[.bool false, .slice none 0 0, .slice none 0 0] 25) = wX at H hHeld ⊢
                refine wpAnyH_ready (rs := [9]) (by kernel_rfl) (by simp) ?_
                refine AllReadyH.cons rfl (fun K hK => ?_) AllReadyH.nil
                · refine step_kds t2 (by first | omega | simp) rfl _ _ rfl rfl rfl H.bel (H.k _ rfl).1 (H.k _ rfl).2 ?_
                  intro aB capB wX WB
                  replace H := H.app9 WB
                  refine hK.out _ _ (unhide HKM _ H.bel) (fun hHeld => ?_)
                  clear hK K
                  try simp only [Act.put, List.setIfInBounds_toArray]
                  clear WB
                  refine takeY 10 (some 35) ?_ rfl rfl (by kernel_rfl) (by kernel_rfl) (by kernel_rfl) (fun _ _ _ h => h) (by rfl) ?_ hHeld ?_
                  rotate_left
                  · intro w hSw; (try dsimp only at hSw); go_simp <;> with_reducible rfl
                  simp only [Act.put]
                  have f0 := (H.m _ rfl).1.cell0
                  have f1 := (H.m _ rfl).1.cell1
                  have f2 := (H.m _ rfl).1.cell2
                  have z0 := (H.m _ rfl).1.free 0
                  have z1 := (H.m _ rfl).1.free 1
                  have z2 := (H.m _ rfl).1.free 2
                  have hmk := Mk8.made true H
                  refine wpAnyH_ready (rs := [12]) (by kernel_rfl) (by simp) ?_
                  refine AllReadyH.cons rfl (fun K hK => ?_) AllReadyH.nil
                  go_simp
                  refine hK.out _ _ (unhide HKM _ hmk.bel) (fun hHeld => ?_)
                  clear hK K
                  try simp only [Act.put]
                  refine wpAnyH_done (by kernel_rfl) ?_ _
                  refine NoPanic.normal ?_
                  go_wp2_with fail
                  go_meet
                  exact ⟨_, rfl, hmk⟩
            · go_simp
              replace H := H.allocM
              refine hK.out _ _ (unhide HKM _ H.bel) (fun hHeld => ?_)
              clear hK K
              try simp only [Act.put, List.setIfInBounds_toArray, List.set_cons_zero, List.set_cons_succ]
              obtain ⟨m, hnm⟩ : ∃ y, y = wX.heap.size := ⟨_, rfl⟩
              rw [← hnm] at H ⊢
              clear hnm
              generalize wX.alloc (.cells #[.bool false, .slice none 0 0, .slice none 0 0] 25) = wX at H hHeld ⊢
              refine wpAnyH_ready (rs := [5]) (by kernel_rfl) (by simp) ?_
              refine AllReadyH.cons rfl (fun K hK => ?_) AllReadyH.nil
              · refine step_its t1 (by first | omega | simp) rfl _ _ rfl rfl rfl H.bel (H.g _ rfl).1 (H.g _ rfl).2 ?_
                intro aA capA wX WA
                replace H := H.app5 WA
                refine hK.out _ _ (unhide HKM _ H.bel) (fun hHeld => ?_)
                clear hK K
                try simp only [Act.put, List.setIfInBounds_toArray]
                clear WA
                refine wpAnyH_ready (rs := [9]) (by kernel_rfl) (by simp) ?_
                refine AllReadyH.cons rfl (fun K hK => ?_) AllReadyH.nil
                · refine step_kds t2 (by first | omega | simp) rfl _ _ rfl rfl rfl H.bel (H.k _ rfl).1 (H.k _ rfl).2 ?_
                  intro aB capB wX WB
                  replace H := H.app9 WB
                  refine hK.out _ _ (unhide HKM _ H.bel) (fun hHeld => ?_)
                  clear hK K
                  try simp only [Act.put]
                  clear WB
                  refine takeY 10 (some 35) ?_ rfl rfl (by kernel_rfl) (by kernel_rfl) (by kernel_rfl) (fun _ _ _ h => h) (by rfl) ?_ hHeld ?_
                  rotate_left
                  · intro w hSw; (try dsimp only at hSw); go_simp <;> with_reducible rfl
                  simp only [Act.put]
                  have f0 := (H.m _ rfl).1.cell0
                  have f1 := (H.m _ rfl).1.cell1
                  have f2 := (H.m _ rfl).1.cell2
                  have z0 := (H.m _ rfl).1.free 0
                  have z1 := (H.m _ rfl).1.free 1
                  have z2 := (H.m _ rfl).1.free 2
                  have hmk := Mk8.made true H
                  refine wpAnyH_ready (rs := [12]) (by kernel_rfl) (by simp) ?_
                  refine AllReadyH.cons rfl (fun K hK => ?_) AllReadyH.nil
                  go_simp
                  refine hK.out _ _ (unhide HKM _ hmk.bel) (fun hHeld => ?_)
                  clear hK K
                  try simp only [Act.put]
                  refine wpAnyH_done (by kernel_rfl) ?_ _
                  refine NoPanic.normal ?_
                  go_wp2_with fail
                  go_meet
                  exact ⟨_, rfl, hmk⟩
          · go_simp
            replace H := H.allocM
            refine hK.out _ _ (unhide HKM _ H.bel) (fun hHeld => ?_)
            clear hK K
            try simp only [Act.put, List.setIfInBounds_toArray, List.set_cons_zero, List.set_cons_succ]
            obtain ⟨m, hnm⟩ : ∃ y, y = wX.heap.size := ⟨_, rfl⟩
            rw [← hnm] at H ⊢
            clear hnm
            generalize wX.alloc (.cells #[.bool false, .slice none 0 0, .slice none 0 0] 25) = wX at H hHeld ⊢
            refine wpAnyH_ready (rs := [2]) (by kernel_rfl) (by simp) ?_
            refine AllReadyH.cons rfl (fun K hK => ?_) AllReadyH.nil
            · go_simp
              replace H := H.allocG
              refine hK.out _ _ (unhide HKM _ H.bel) (fun hHeld => ?_)
              clear hK K
              try simp only [Act.put, List.setIfInBounds_toArray, List.set_cons_zero, List.set_cons_succ]
              obtain ⟨g2, hnm⟩ : ∃ y, y = wX.heap.size := ⟨_, rfl⟩
              rw [← hnm] at H ⊢
              clear hnm
              generalize wX.alloc (.cells #[] 47) = wX at H hHeld ⊢
              refine wpAnyH_ready (rs := [5]) (by kernel_rfl) (by simp) ?_
              refine AllReadyH.cons rfl (fun K hK => ?_) AllReadyH.nil
              · refine step_its t1 (by first | omega | simp) rfl _ _ rfl rfl rfl H.bel (H.g _ rfl).1 (H.g _ rfl).2 ?_
                intro aA capA wX WA
                replace H := H.app5 WA
                refine hK.out _ _ (unhide HKM _ H.bel) (fun hHeld => ?_)
                clear hK K
                try simp only [Act.put, List.setIfInBounds_toArray]
                clear WA
                refine wpAnyH_ready (rs := [9]) (by kernel_rfl) (by simp) ?_
                refine AllReadyH.cons rfl (fun K hK => ?_) AllReadyH.nil
                · refine step_kds t2 (by first | omega | simp) rfl _ _ rfl rfl rfl H.bel (H.k _ rfl).1 (H.k _ rfl).2 ?_
                  intro aB capB wX WB
                  replace H := H.app9 WB
                  refine hK.out _ _ (unhide HKM _ H.bel) (fun hHeld => ?_)
                  clear hK K
                  try simp only [Act.put]
                  clear WB
                  refine takeY 10 (some 35) ?_ rfl rfl (by kernel_rfl) (by kernel_rfl) (by kernel_rfl) (fun _ _ _ h => h) (by rfl) ?_ hHeld ?_
                  rotate_left
                  · intro w hSw; (try dsimp only at hSw); go_simp <;> with_reducible rfl
                  simp only [Act.put]
                  have f0 := (H.m _ rfl).1.cell0
                  have f1 := (H.m _ rfl).1.cell1
                  have f2 := (H.m _ rfl).1.cell2
                  have z0 := (H.m _ rfl).1.free 0
                  have z1 := (H.m _ rfl).1.free 1
                  have z2 := (H.m _ rfl).1.free 2
                  have hmk := Mk8.made true H
                  refine wpAnyH_ready (rs := [12]) (by kernel_rfl) (by simp) ?_
                  refine AllReadyH.cons rfl (fun K hK => ?_) AllReadyH.nil
                  go_simp
                  refine hK.out _ _ (unhide HKM _ hmk.bel) (fun hHeld => ?_)
                  clear hK K
                  try simp only [Act.put]
                  refine wpAnyH_done (by kernel_rfl) ?_ _
                  refine NoPanic.normal ?_
                  go_wp2_with fail
                  go_meet
                  exact ⟨_, rfl, hmk⟩
        · go_simp
          replace H := H.allocM
          refine hK.out _ _ (unhide HKM _ H.bel) (fun hHeld => ?_)
          clear hK K
          try simp only [Act.put, List.setIfInBounds_toArray, List.set_cons_zero, List.set_cons_succ]
          obtain ⟨m, hnm⟩ : ∃ y, y = wX.heap.size := ⟨_, rfl⟩
          rw [← hnm] at H ⊢
          clear hnm
          generalize wX.alloc (.cells #[.bool false, .slice none 0 0, .slice none 0 0] 25) = wX at H hHeld ⊢
          refine wpAnyH_ready (rs := [2, 6]) (by kernel_rfl) (by simp) ?_
          refine AllReadyH.cons rfl (fun K hK => ?_) (AllReadyH.cons rfl (fun K hK => ?_) AllReadyH.nil)
          · go_simp
            replace H := H.allocG
            refine hK.out _ _ (unhide HKM _ H.bel) (fun hHeld => ?_)
            clear hK K
            try simp only [Act.put, List.setIfInBounds_toArray, List.set_cons_zero, List.set_cons_succ]
            obtain ⟨g2, hnm⟩ : ∃ y, y = wX.heap.size := ⟨_, rfl⟩
            rw [← hnm] at H ⊢
            clear hnm
            generalize wX.alloc (.cells #[] 47) = wX at H hHeld ⊢
            refine wpAnyH_ready (rs := [5, 6]) (by kernel_rfl) (by simp) ?_
            refine AllReadyH.cons rfl (fun K hK => ?_) (AllReadyH.cons rfl (fun K hK => ?_) AllReadyH.nil)
            · refine step_its t1 (by first | omega | simp) rfl _ _ rfl rfl rfl H.bel (H.g _ rfl).1 (H.g _ rfl).2 ?_
              intro aA capA wX WA
              replace H := H.app5 WA
              refine hK.out _ _ (unhide HKM _ H.bel) (fun hHeld => ?_)
              clear hK K
              try simp only [Act.put, List.setIfInBounds_toArray]
              clear WA
              refine wpAnyH_ready (rs := [6]) (by kernel_rfl) (by simp) ?_
              refine AllReadyH.cons rfl (fun K hK => ?_) AllReadyH.nil
              · go_simp
                replace H := H.allocK
                refine hK.out _ _ (unhide HKM _ H.bel) (fun hHeld => ?_)
                clear hK K
                try simp only [Act.put, List.setIfInBounds_toArray, List.set_cons_zero, List.set_cons_succ]
                obtain ⟨g6, hnm⟩ : ∃ y, y = wX.heap.size := ⟨_, rfl⟩
                rw [← hnm] at H ⊢
                clear hnm
                generalize wX.alloc (.cells #[] 49) = wX at H hHeld ⊢
                refine wpAnyH_ready (rs := [9]) (by kernel_rfl) (by simp) ?_
                refine AllReadyH.cons rfl (fun K hK => ?_) AllReadyH.nil
                · refine step_kds t2 (by first | omega | simp) rfl _ _ rfl rfl rfl H.bel (H.k _ rfl).1 (H.k _ rfl).2 ?_
                  intro aB capB wX WB
                  replace H := H.app9 WB
                  refine hK.out _ _ (unhide HKM _ H.bel) (fun hHeld => ?_)
                  clear hK K
                  try simp only [Act.put, List.setIfInBounds_toArray]
                  clear WB
                  refine takeY 10 (some 35) ?_ rfl rfl (by kernel_rfl) (by kernel_rfl) (by kernel_rfl) (fun _ _ _ h => h) (by rfl) ?_ hHeld ?_
                  rotate_left
                  · intro w hSw; (try dsimp only at hSw); go_simp <;> with_reducible rfl
                  simp only [Act.put]
                  have f0 := (H.m _ rfl).1.cell0
                  have f1 := (H.m _ rfl).1.cell1
                  have f2 := (H.m _ rfl).1.cell2
                  have z0 := (H.m _ rfl).1.free 0
                  have z1 := (H.m _ rfl).1.free 1
                  have z2 := (H.m _ rfl).1.free 2
                  have hmk := Mk8.made true H
                  refine wpAnyH_ready (rs := [12]) (by kernel_rfl) (by simp) ?_
                  refine AllReadyH.cons rfl (fun K hK => ?_) AllReadyH.nil
                  go_simp
                  refine hK.out _ _ (unhide HKM _ hmk.bel) (fun hHeld => ?_)
                  clear hK K
                  try simp only [Act.put]
                  refine wpAnyH_done (by kernel_rfl) ?_ _
                  refine NoPanic.normal ?_
                  go_wp2_with fail
                  go_meet
                  exact ⟨_, rfl, hmk⟩
            · go_simp
              replace H := H.allocK
              refine hK.out _ _ (unhide HKM _ H.bel) (fun hHeld => ?_)
              clear hK K
              try simp only [Act.put, List.setIfInBounds_toArray, List.set_cons_zero, List.set_cons_succ]
              obtain ⟨g6, hnm⟩ : ∃ y, y = wX.heap.size := ⟨_, rfl⟩
              rw [← hnm] at H ⊢
              clear hnm
              generalize wX.alloc (.cells #[] 49) = wX at H hHeld ⊢
              refine wpAnyH_ready (rs := [5]) (by kernel_rfl) (by simp) ?_
              refine AllReadyH.cons rfl (fun K hK => ?_) AllReadyH.nil
              · refine step_its t1 (by first | omega | simp) rfl _ _ rfl rfl rfl H.bel (H.g _ rfl).1 (H.g _ rfl).2 ?_
                intro aA capA wX WA
                replace H := H.app5 WA
                refine hK.out _ _ (unhide HKM _ H.bel) (fun hHeld => ?_)
                clear hK K
                try simp only [Act.put, List.setIfInBounds_toArray]
                clear WA
                refine wpAnyH_ready (rs := [9]) (by kernel_rfl) (by simp) ?_
                refine AllReadyH.cons rfl (fun K hK => ?_) AllReadyH.nil
                · refine step_kds t2 (by first | omega | simp) rfl _ _ rfl rfl rfl H.bel (H.k _ rfl).1 (H.k _ rfl).2 ?_
                  intro aB capB wX WB
                  replace H := H.app9 WB
                  refine hK.out _ _ (unhide HKM _ H.bel) (fun hHeld => ?_)
                  clear hK K
                  try simp only [Act.put]
                  clear WB
                  refine takeY 10 (some 35) ?_ rfl rfl (by kernel_rfl) (by kernel_rfl) (by kernel_rfl) (fun _ _ _ h => h) (by rfl) ?_ hHeld ?_
                  rotate_left
                  · intro w hSw; (try dsimp only at hSw); go_simp <;> with_reducible rfl
                  simp only [Act.put]
                  have f0 := (H.m _ rfl).1.cell0
                  have f1 := (H.m _ rfl).1.cell1
                  have f2 := (H.m _ rfl).1.cell2
                  have z0 := (H.m _ rfl).1.free 0
                  have z1 := (H.m _ rfl).1.free 1
                  have z2 := (H.m _ rfl).1.free 2
                  have hmk := Mk8.made true H
                  refine wpAnyH_ready (rs := [12]) (by kernel_rfl) (by simp) ?_
                  refine AllReadyH.cons rfl (fun K hK => ?_) AllReadyH.nil
                  go_simp
                  refine hK.out _ _ (unhide HKM _ hmk.bel) (fun hHeld => ?_)
                  clear hK K
                  try simp only [Act.put]
                  refine wpAnyH_done (by kernel_rfl) ?_ _
                  refine NoPanic.normal ?_
                  go_wp2_with fail
                  go_meet
                  exact ⟨_, rfl, hmk⟩
          · go_simp
            replace H := H.allocK
            refine hK.out _ _ (unhide HKM _ H.bel) (fun hHeld => ?_)
            clear hK K
            try simp only [Act.put, List.setIfInBounds_toArray, List.set_cons_zero, List.set_cons_succ]
            obtain ⟨g6, hnm⟩ : ∃ y, y = wX.heap.size := ⟨_, rfl⟩
            rw [← hnm] at H ⊢
            clear hnm
            generalize wX.alloc (.cells #[] 49) = wX at H hHeld ⊢
            refine wpAnyH_ready (rs := [2]) (by kernel_rfl) (by simp) ?_
            refine AllReadyH.cons rfl (fun K hK => ?_) AllReadyH.nil
            · go_simp
              replace H := H.allocG
              refine hK.out _ _ (unhide HKM _ H.bel) (fun hHeld => ?_)
              clear hK K
              try simp only [Act.put, List.setIfInBounds_toArray, List.set_cons_zero, List.set_cons_succ]
              obtain ⟨g2, hnm⟩ : ∃ y, y = wX.heap.size := ⟨_, rfl⟩
              rw [← hnm] at H ⊢
              clear hnm
              generalize wX.alloc (.cells #[] 47) = wX at H hHeld ⊢
              refine wpAnyH_ready (rs := [5]) (by kernel_rfl) (by simp) ?_
              refine AllReadyH.cons rfl (fun K hK => ?_) AllReadyH.nil
              · refine step_its t1 (by first | omega | simp) rfl _ _ rfl rfl rfl H.bel (H.g _ rfl).1 (H.g _ rfl).2 ?_
                intro aA capA wX WA
                replace H := H.app5 WA
                refine hK.out _ _ (unhide HKM _ H.bel) (fun hHeld => ?_)
                clear hK K
                try simp only [Act.put, List.setIfInBounds_toArray]
                clear WA
                refine wpAnyH_ready (rs := [9]) (by kernel_rfl) (by simp) ?_
                refine AllReadyH.cons rfl (fun K hK => ?_) AllReadyH.nil
                · refine step_kds t2 (by first | omega | simp) rfl _ _ rfl rfl rfl H.bel (H.k _ rfl).1 (H.k _ rfl).2 ?_
                  intro aB capB wX WB
                  replace H := H.app9 WB
                  refine hK.out _ _ (unhide HKM _ H.bel) (fun hHeld => ?_)
                  clear hK K
                  try simp only [Act.put]
                  clear WB
                  refine takeY 10 (some 35) ?_ rfl rfl (by kernel_rfl) (by kernel_rfl) (by kernel_rfl) (fun _ _ _ h => h) (by rfl) ?_ hHeld ?_
                  rotate_left
                  · intro w hSw; (try dsimp only at hSw); go_simp <;> with_reducible rfl
                  simp only [Act.put]
                  have f0 := (H.m _ rfl).1.cell0
                  have f1 := (H.m _ rfl).1.cell1
                  have f2 := (H.m _ rfl).1.cell2
                  have z0 := (H.m _ rfl).1.free 0
                  have z1 := (H.m _ rfl).1.free 1
                  have z2 := (H.m _ rfl).1.free 2
                  have hmk := Mk8.made true H
                  refine wpAnyH_ready (rs := [12]) (by kernel_rfl) (by simp) ?_
                  refine AllReadyH.cons rfl (fun K hK => ?_) AllReadyH.nil
                  go_simp
                  refine hK.out _ _ (unhide HKM _ hmk.bel) (fun hHeld => ?_)
                  clear hK K
                  try simp only [Act.put]
                  refine wpAnyH_done (by kernel_rfl) ?_ _
                  refine NoPanic.normal ?_
                  go_wp2_with fail
                  go_meet
                  exact ⟨_, rfl, hmk⟩
      case rest =>
        obtain ⟨m, rfl, hmade⟩ := hcut
        have q0c := (unhide HKM _ hmade.bel).2.1
        have HD0 := hide (DuoI.start hmade)
        have q0d := cell_keep q0c (below_alloc wc (.cells #[.bool true, .slice none 0 0, .slice none 0 0] 25))
        clear hmade
        go_upto_if 40 with fail
        obtain ⟨la, hla⟩ : ∃ y, y = wc.heap.size := ⟨_, rfl⟩
        rw [← hla] at HD0 ⊢
        clear hla q0c
        generalize wc.alloc (.cells #[.bool true, .slice none 0 0, .slice none 0 0] 25) = wd at *
        go_cut [] (fun wz => DuoI wr m la (cur ++ [(key, val)]) [(key, val)] wz)
        case first =>
          go_wp2_with fail
          go_cut [] (fun wz => DuoI wr m la (cur ++ [(key, val)]) [] wz)
          case first =>
            obtain ⟨wE, hwE⟩ : ∃ y, y = wd.drew := ⟨_, rfl⟩
            have HDd := (unhide HD0).below (below_drew wd)
            rw [← hwE] at HDd
            have HWE := hide hwE
            clear hwE
            obtain ⟨a1, c1, b1, d1, a2, c2, n1, t1, n2, o2, hbd, hm, hla, hne, hz⟩ := HDd
            obtain ⟨rfl, rfl⟩ := hz rfl
            have m1 : wE.cell? ⟨m, 1, none⟩ = some (.slice a1 cur.length c1) := n1.cell1
            have TM : ∀ o, (wE.alloc o).cell? ⟨m, 1, none⟩ = some (.slice a1 cur.length c1) := fun o => cell_keep m1 (below_alloc _ o)
            refine wp_region_noPanic ?_
            refine wp_region_held_drew (S := fun w' => Below wr.heap.size wr w' ∧ w'.cell? ⟨p, 1, none⟩ = some (.slice (some ⟨ba, off, none⟩) its.length ci) ∧ w'.cell? ⟨ba, off + k * 2, none⟩ = some (.string key) ∧ w'.cell? ⟨ba, off + k * 2 + 1, none⟩ = some (Value.string val)) (by kernel_rfl) (by rw [← unhide HWE]; exact unhide HKS _ hbd) (fun hHeld => ?_)
            rw [← unhide HWE] at hHeld ⊢
            refine takeY 0 (some 41) ?_ rfl rfl (by kernel_rfl) (by kernel_rfl) (by kernel_rfl) (fun _ _ _ h => h) (by rfl) ?_ hHeld ?_
            rotate_left
            · intro w hSw; (try dsimp only at hSw); go_simp <;> with_reducible rfl
            simp only [Act.put, List.setIfInBounds_toArray, List.set_cons_zero, List.set_cons_succ]
            refine takeY 2 (some 43) ?_ rfl rfl (by kernel_rfl) (by kernel_rfl) (by kernel_rfl) (fun _ _ _ h => h) (by rfl) ?_ hHeld ?_
            rotate_left
            · intro w hSw; (try dsimp only at hSw); go_simp <;> with_reducible rfl
            simp only [Act.put, List.setIfInBounds_toArray, List.set_cons_zero, List.set_cons_succ]
            refine takeY 3 (some 44) ?_ rfl rfl (by kernel_rfl) (by kernel_rfl) (by kernel_rfl) (fun _ _ _ h => h) (by rfl) ?_ hHeld ?_
            rotate_left
            · intro w hSw; (try dsimp only at hSw); go_simp <;> with_reducible rfl
            simp only [Act.put, List.setIfInBounds_toArray, List.set_cons_zero, List.set_cons_succ]
            refine takeY 4 (some 45) ?_ rfl rfl (by kernel_rfl) (by kernel_rfl) (by kernel_rfl) (fun _ _ _ h => h) (by rfl) ?_ hHeld ?_
            rotate_left
            · intro w hSw; (try dsimp only at hSw); go_simp <;> with_reducible rfl
            simp only [Act.put, List.setIfInBounds_toArray, List.set_cons_zero, List.set_cons_succ]
            refine takeY 5 (some 46) ?_ rfl rfl (by kernel_rfl) (by kernel_rfl) (by kernel_rfl) (fun _ _ _ h => h) (by rfl) ?_ hHeld ?_
            rotate_left
            · intro w hSw; (try dsimp only at hSw); go_simp <;> with_reducible rfl
            simp only [Act.put, List.setIfInBounds_toArray, List.set_cons_zero, List.set_cons_succ]
            refine takeY 6 (some 47) ?_ rfl rfl (by kernel_rfl) (by kernel_rfl) (by kernel_rfl) (fun _ _ _ h => h) (by rfl) ?_ hHeld ?_
            rotate_left
            · intro w hSw; (try dsimp only at hSw); go_simp <;> with_reducible rfl
            simp only [Act.put, List.setIfInBounds_toArray, List.set_cons_zero, List.set_cons_succ]
            refine wpAnyH_ready (rs := [1, 7]) (by kernel_rfl) (by simp) ?_
            refine AllReadyH.cons rfl (fun K hK => ?_) (AllReadyH.cons rfl (fun K hK => ?_) AllReadyH.nil)
            · go_simp
              refine hK.out _ _ (hHeld) (fun hHeld => ?_)
              clear hK K
              try simp only [Act.put, List.setIfInBounds_toArray, List.set_cons_zero, List.set_cons_succ]
              refine wpAnyH_ready (rs := [7]) (by kernel_rfl) (by simp) ?_
              refine AllReadyH.cons rfl (fun K hK => ?_) AllReadyH.nil
              go_simp
              refine hK.out _ _ (unhide HKS _ (hbd.alloc hbd.size _)) (fun hHeld => ?_)
              clear hK K
              try simp only [Act.put, List.setIfInBounds_toArray, List.set_cons_zero, List.set_cons_succ]
              refine wpAnyH_ready (rs := [8]) (by kernel_rfl) (by simp) ?_
              refine AllReadyH.cons rfl (fun K hK => ?_) AllReadyH.nil
              refine step_gen (wr := wE) (B := wr.heap.size) (v := .slice a1 cur.length c1) (xs := pairs Value.string cur) (news := [.string key, Value.string val]) rfl Try.underlying22 info47 rfl (by decide) _ _ rfl rfl rfl (t1.i) hbd.size rfl (pair_one rfl) (by omega) (by omega) ?_
              intro a' cap' w' hown' hg' _
              have hbw : Below wr.heap.size wr w' := hbd.grown hg' hbd.size (fun g hg => (World.ownsRow.lt t1.i g hg).1)
              have nm : Nblk w' m true a1 cur.length c1 b1 0 d1 := DuoI.kept t1 n1 hg'
              have f1 := nm.cell1
              have f2 := nm.free 1
              refine hK.out _ _ (unhide HKS _ hbw) (fun hHeld => ?_)
              clear hK K
              try simp only [Act.put, List.setIfInBounds_toArray]
              refine takeY 9 (some 50) ?_ rfl rfl (by kernel_rfl) (by kernel_rfl) (by kernel_rfl) (fun _ _ _ h => h) (by rfl) ?_ hHeld ?_
              rotate_left
              · intro w hSw; (try dsimp only at hSw); go_simp <;> with_reducible rfl
              simp only [Act.put]
              refine wpAnyH_ready (rs := [10]) (by kernel_rfl) (by simp) ?_
              refine AllReadyH.cons rfl (fun K hK => ?_) AllReadyH.nil
              go_simp
              refine hK.out _ _ (unhide HKS _ (hbw.setCell (p := ⟨m, 1, none⟩) hm _)) (fun hHeld => ?_)
              clear hK K
              try simp only [Act.put]
              refine wpAnyH_done (by kernel_rfl) ?_ _
              refine NoPanic.normal ?_
              go_wp2_with fail
              go_meet
              exact DuoI.grow1 n1 t1 n2 hbd hm hla hne hown' hg'
            · go_simp
              refine hK.out _ _ (unhide HKS _ (hbd.alloc hbd.size _)) (fun hHeld => ?_)
              clear hK K
              try simp only [Act.put, List.setIfInBounds_toArray, List.set_cons_zero, List.set_cons_succ]
              refine wpAnyH_ready (rs := [1]) (by kernel_rfl) (by simp) ?_
              refine AllReadyH.cons rfl (fun K hK => ?_) AllReadyH.nil
              go_simp
              refine hK.out _ _ (hHeld) (fun hHeld => ?_)
              clear hK K
              try simp only [Act.put, List.setIfInBounds_toArray, List.set_cons_zero, List.set_cons_succ]
              refine wpAnyH_ready (rs := [8]) (by kernel_rfl) (by simp) ?_
              refine AllReadyH.cons rfl (fun K hK => ?_) AllReadyH.nil
              refine step_gen (wr := wE) (B := wr.heap.size) (v := .slice a1 cur.length c1) (xs := pairs Value.string cur) (news := [.string key, Value.string val]) rfl Try.underlying22 info47 rfl (by decide) _ _ rfl rfl rfl (t1.i) hbd.size rfl (pair_one rfl) (by omega) (by omega) ?_
              intro a' cap' w' hown' hg' _
              have hbw : Below wr.heap.size wr w' := hbd.grown hg' hbd.size (fun g hg => (World.ownsRow.lt t1.i g hg).1)
              have nm : Nblk w' m true a1 cur.length c1 b1 0 d1 := DuoI.kept t1 n1 hg'
              have f1 := nm.cell1
              have f2 := nm.free 1
              refine hK.out _ _ (unhide HKS _ hbw) (fun hHeld => ?_)
              clear hK K
              try simp only [Act.put, List.setIfInBounds_toArray]
              refine takeY 9 (some 50) ?_ rfl rfl (by kernel_rfl) (by kernel_rfl) (by kernel_rfl) (fun _ _ _ h => h) (by rfl) ?_ hHeld ?_
              rotate_left
              · intro w hSw; (try dsimp only at hSw); go_simp <;> with_reducible rfl
              simp only [Act.put]
              refine wpAnyH_ready (rs := [10]) (by kernel_rfl) (by simp) ?_
              refine AllReadyH.cons rfl (fun K hK => ?_) AllReadyH.nil
              go_simp
              refine hK.out _ _ (unhide HKS _ (hbw.setCell (p := ⟨m, 1, none⟩) hm _)) (fun hHeld => ?_)
              clear hK K
              try simp only [Act.put]
              refine wpAnyH_done (by kernel_rfl) ?_ _
              refine NoPanic.normal ?_
              go_wp2_with fail
              go_meet
              exact DuoI.grow1 n1 t1 n2 hbd hm hla hne hown' hg'
          case rest =>
            have HD1 := hide hcut
            clear hcut q0d HD0
            obtain ⟨wd, hwd⟩ : ∃ y, y = wc := ⟨_, rfl⟩
            rw [← hwd] at HD1 ⊢
            clear hwd
            go_wp2_with fail
            obtain ⟨wE, hwE⟩ : ∃ y, y = wd.drew := ⟨_, rfl⟩
            have HDd := (unhide HD1).below (below_drew wd)
            rw [← hwE] at HDd
            have HWE := hide hwE
            clear hwE
            obtain ⟨a1, c1, b1, d1, a2, c2, n1, t1, n2, o2, hbd, hm, hla, hne, hz⟩ := HDd
            obtain ⟨rfl, rfl⟩ := hz rfl
            have m1 : wE.cell? ⟨la, 1, none⟩ = some (.slice none 0 0) := n2.cell1
            have TM : ∀ o, (wE.alloc o).cell? ⟨la, 1, none⟩ = some (.slice none 0 0) := fun o => cell_keep m1 (below_alloc _ o)
            refine wp_region_noPanic ?_
            refine wp_region_held_drew (S := fun w' => Below wr.heap.size wr w' ∧ w'.cell? ⟨p, 1, none⟩ = some (.slice (some ⟨ba, off, none⟩) its.length ci) ∧ w'.cell? ⟨ba, off + k * 2, none⟩ = some (.string key) ∧ w'.cell? ⟨ba, off + k * 2 + 1, none⟩ = some (Value.string val)) (by kernel_rfl) (by rw [← unhide HWE]; exact unhide HKS _ hbd) (fun hHeld => ?_)
            rw [← unhide HWE] at hHeld ⊢
            refine takeY 0 (some 51) ?_ rfl rfl (by kernel_rfl) (by kernel_rfl) (by kernel_rfl) (fun _ _ _ h => h) (by rfl) ?_ hHeld ?_
            rotate_left
            · intro w hSw; (try dsimp only at hSw); go_simp <;> with_reducible rfl
            simp only [Act.put, List.setIfInBounds_toArray, List.set_cons_zero, List.set_cons_succ]
            refine takeY 2 (some 53) ?_ rfl rfl (by kernel_rfl) (by kernel_rfl) (by kernel_rfl) (fun _ _ _ h => h) (by rfl) ?_ hHeld ?_
            rotate_left
            · intro w hSw; (try dsimp only at hSw); go_simp <;> with_reducible rfl
            simp only [Act.put, List.setIfInBounds_toArray, List.set_cons_zero, List.set_cons_succ]
            refine takeY 3 (some 54) ?_ rfl rfl (by kernel_rfl) (by kernel_rfl) (by kernel_rfl) (fun _ _ _ h => h) (by rfl) ?_ hHeld ?_
            rotate_left
            · intro w hSw; (try dsimp only at hSw); go_simp <;> with_reducible rfl
            simp only [Act.put, List.setIfInBounds_toArray, List.set_cons_zero, List.set_cons_succ]
            refine takeY 4 (some 55) ?_ rfl rfl (by kernel_rfl) (by kernel_rfl) (by kernel_rfl) (fun _ _ _ h => h) (by rfl) ?_ hHeld ?_
            rotate_left
            · intro w hSw; (try dsimp only at hSw); go_simp <;> with_reducible rfl
            simp only [Act.put, List.setIfInBounds_toArray, List.set_cons_zero, List.set_cons_succ]
            refine takeY 5 (some 56) ?_ rfl rfl (by kernel_rfl) (by kernel_rfl) (by kernel_rfl) (fun _ _ _ h => h) (by rfl) ?_ hHeld ?_
            rotate_left
            · intro w hSw; (try dsimp only at hSw); go_simp <;> with_reducible rfl
            simp only [Act.put, List.setIfInBounds_toArray, List.set_cons_zero, List.set_cons_succ]
            refine takeY 6 (some 57) ?_ rfl rfl (by kernel_rfl) (by kernel_rfl) (by kernel_rfl) (fun _ _ _ h => h) (by rfl) ?_ hHeld ?_
            rotate_left
            · intro w hSw; (try dsimp only at hSw); go_simp <;> with_reducible rfl
            simp only [Act.put, List.setIfInBounds_toArray, List.set_cons_zero, List.set_cons_succ]
            refine wpAnyH_ready (rs := [1, 7]) (by kernel_rfl) (by simp) ?_
            refine AllReadyH.cons rfl (fun K hK => ?_) (AllReadyH.cons rfl (fun K hK => ?_) AllReadyH.nil)
            · go_simp
              refine hK.out _ _ (hHeld) (fun hHeld => ?_)
              clear hK K
              try simp only [Act.put, List.setIfInBounds_toArray, List.set_cons_zero, List.set_cons_succ]
              refine wpAnyH_ready (rs := [7]) (by kernel_rfl) (by simp) ?_
              refine AllReadyH.cons rfl (fun K hK => ?_) AllReadyH.nil
              go_simp
              refine hK.out _ _ (unhide HKS _ (hbd.alloc hbd.size _)) (fun hHeld => ?_)
              clear hK K
              try simp only [Act.put, List.setIfInBounds_toArray, List.set_cons_zero, List.set_cons_succ]
              refine wpAnyH_ready (rs := [8]) (by kernel_rfl) (by simp) ?_
              refine AllReadyH.cons rfl (fun K hK => ?_) AllReadyH.nil
              refine step_gen (wr := wE) (B := wr.heap.size) (v := .slice none 0 0) (xs := []) (news := [.string key, Value.string val]) rfl Try.underlying22 info47 rfl (by decide) _ _ rfl rfl rfl (World.ownsRow_nil _ _ _ _) hbd.size rfl (pair_one rfl) (by omega) (by omega) ?_
              intro a' cap' w' hown' hg' _
              have hbw : Below wr.heap.size wr w' := hbd.grown hg' hbd.size (fun g hg => by cases hg)
              have nm : Nblk w' la true none 0 0 none 0 0 := Nblk.grown n2 hg' (fun e => by cases e)
              have f1 := nm.cell1
              have f2 := nm.free 1
              refine hK.out _ _ (unhide HKS _ hbw) (fun hHeld => ?_)
              clear hK K
              try simp only [Act.put, List.setIfInBounds_toArray]
              refine takeY 9 (some 60) ?_ rfl rfl (by kernel_rfl) (by kernel_rfl) (by kernel_rfl) (fun _ _ _ h => h) (by rfl) ?_ hHeld ?_
              rotate_left
              · intro w hSw; (try dsimp only at hSw); go_simp <;> with_reducible rfl
              simp only [Act.put]
              refine wpAnyH_ready (rs := [10]) (by kernel_rfl) (by simp) ?_
              refine AllReadyH.cons rfl (fun K hK => ?_) AllReadyH.nil
              go_simp
              refine hK.out _ _ (unhide HKS _ (hbw.setCell (p := ⟨la, 1, none⟩) hla _)) (fun hHeld => ?_)
              clear hK K
              try simp only [Act.put]
              refine wpAnyH_done (by kernel_rfl) ?_ _
              refine NoPanic.normal ?_
              go_wp2_with fail
              go_meet
              exact DuoI.grow2 n1 t1 n2 hbd hm hla hne hown' hg'
            · go_simp
              refine hK.out _ _ (unhide HKS _ (hbd.alloc hbd.size _)) (fun hHeld => ?_)
              clear hK K
              try simp only [Act.put, List.setIfInBounds_toArray, List.set_cons_zero, List.set_cons_succ]
              refine wpAnyH_ready (rs := [1]) (by kernel_rfl) (by simp) ?_
              refine AllReadyH.cons rfl (fun K hK => ?_) AllReadyH.nil
              go_simp
              refine hK.out _ _ (hHeld) (fun hHeld => ?_)
              clear hK K
              try simp only [Act.put, List.setIfInBounds_toArray, List.set_cons_zero, List.set_cons_succ]
              refine wpAnyH_ready (rs := [8]) (by kernel_rfl) (by simp) ?_
              refine AllReadyH.cons rfl (fun K hK => ?_) AllReadyH.nil
              refine step_gen (wr := wE) (B := wr.heap.size) (v := .slice none 0 0) (xs := []) (news := [.string key, Value.string val]) rfl Try.underlying22 info47 rfl (by decide) _ _ rfl rfl rfl (World.ownsRow_nil _ _ _ _) hbd.size rfl (pair_one rfl) (by omega) (by omega) ?_
              intro a' cap' w' hown' hg' _
              have hbw : Below wr.heap.size wr w' := hbd.grown hg' hbd.size (fun g hg => by cases hg)
              have nm : Nblk w' la true none 0 0 none 0 0 := Nblk.grown n2 hg' (fun e => by cases e)
              have f1 := nm.cell1
              have f2 := nm.free 1
              refine hK.out _ _ (unhide HKS _ hbw) (fun hHeld => ?_)
              clear hK K
              try simp only [Act.put, List.setIfInBounds_toArray]
              refine takeY 9 (some 60) ?_ rfl rfl (by kernel_rfl) (by kernel_rfl) (by kernel_rfl) (fun _ _ _ h => h) (by rfl) ?_ hHeld ?_
              rotate_left
              · intro w hSw; (try dsimp only at hSw); go_simp <;> with_reducible rfl
              simp only [Act.put]
              refine wpAnyH_ready (rs := [10]) (by kernel_rfl) (by simp) ?_
              refine AllReadyH.cons rfl (fun K hK => ?_) AllReadyH.nil
              go_simp
              refine hK.out _ _ (unhide HKS _ (hbw.setCell (p := ⟨la, 1, none⟩) hla _)) (fun hHeld => ?_)
              clear hK K
              try simp only [Act.put]
              refine wpAnyH_done (by kernel_rfl) ?_ _
              refine NoPanic.normal ?_
              go_wp2_with fail
              go_meet
              exact DuoI.grow2 n1 t1 n2 hbd hm hla hne hown' hg'
        case rest =>
          obtain ⟨nx, hnx⟩ : ∃ y, y = cur ++ [(key, val)] := ⟨_, rfl⟩
          rw [← hnx] at hcut
          have HNX := hide hnx
          clear hnx q0d HD0
          obtain ⟨wz, hwz⟩ : ∃ y, y = wc := ⟨_, rfl⟩
          rw [← hwz] at hcut ⊢
          clear hwz
          obtain ⟨a1, c1, b1, d1, a2, c2, n1, t1, n2, o2, hbd, hm, hla, hne, hz⟩ := hcut
          have hnl : nx.length ≤ 1100 := by rw [unhide HNX]; simp; omega
          have hnm : ∀ x ∈ nx, mayI x = true := by
            intro x hx
            rw [unhide HNX] at hx
            rcases List.mem_append.1 hx with hx | hx
            · exact (unhide HST).my x hx
            · simp at hx
              subst hx
              exact unhide HMX
          have HBY := hide (bytes_szI a1 b1 c1 d1 nx wz t1.i.row hnl hnm)
          have N1 := hide n1
          have T1 := hide t1
          have N2 := hide n2
          have O2 := hide o2
          have HBD := hide hbd
          have g0 := n1.cell0
          have g1 := n1.cell1
          have g2 := n1.cell2
          clear n1 t1 n2 o2 hbd hz hnm HKM HKS
          go_wp2_with fail
          refine (unhide HBY).mono ?_
          rintro x w4 ⟨S, rfl, hS, hb⟩
          have HB4 := hide (below_then (unhide HBD) hb)
          have HN1 := hide ((unhide N1).below hb)
          have HN2 := hide ((unhide N2).below hb)
          have HT1 := hide ((unhide T1).below hb)
          have HO2 := hide ((unhide O2).below hb)
          have hst := unhide HST
          have HP4 := hide (hst.out.below (unhide HB4))
          have hq4 := hst.one.below (unhide HB4)
          have HQ4 := hide hq4
          have e0 := hq4.cell0
          have e1 := hq4.cell1
          have e2 := hq4.cell2
          have hBz : q + 1 ≤ w4.heap.size := hq4.lt
          have HNQ : Hid (∀ g, (Value.slice av ps.length capv).ownBlock = some g → q + 1 ≤ g ∧ g < wr.heap.size) := hide (fun g hg => World.ownsRow.lt hst.out.row g hg)
          clear hb HBY g0 g1 g2 N1 T1 N2 O2 hst hq4
          by_cases hbig : 1007 < Cut.size itL nx
          · have hs1 : (1007 : Int) < (S.size : Int) := by omega
            have HBIG := hide hbig
            clear hS hbig
            have HN5 := hide (fun (w5 : World) (hg : w4.grownBy w5 (Value.slice av ps.length capv).ownBlock) => And.intro ((unhide HN2).grown hg (fun e => by have := unhide HNQ la e; omega)) ((unhide HQ4).grown hg (fun e => by have := unhide HNQ q e; omega)))
            go_wp2_with (at_builtin; refine app_gen (news := [.bool true, .slice a cur.length c, .slice b 0 d]) Try.underlying44 info25 rfl (by decide) rfl _ _ rfl rfl rfl (unhide HP4).row hBz rfl ?_ ?_ ?_ ?_; (exact three_one rfl rfl rfl); omega; omega; intro a5 cap5 w5 ho' hg' _; have l0 := (unhide HN5 w5 hg').1.cell0; have l1 := (unhide HN5 w5 hg').1.cell1; have l2 := (unhide HN5 w5 hg').1.cell2; have z0 := (unhide HN5 w5 hg').2.free 0; have z1 := (unhide HN5 w5 hg').2.free 1; have z2 := (unhide HN5 w5 hg').2.free 2; have y0 := (unhide HN5 w5 hg').2.cell0; have y1 := (unhide HN5 w5 hg').2.cell1; have y2 := (unhide HN5 w5 hg').2.cell2; have HO5 := hide ho'; have HG5 := hide hg'; clear ho' hg')
            go_roundw
            case rel =>
              have hbg := unhide HBIG
              rw [unhide HNX] at hbg
              rw [unhide HQE]
              rw [unhide HQE] at HST HO5
              exact ⟨k + 1, [(key, val)], ps ++ [⟨a, c, b, d, cur⟩], a2, c2, none, 0, by omega, by go_num, StdI.cutoff (unhide HST) (unhide HX) (unhide HMX) hbg (unhide HB4) (unhide HO2) (unhide HG5) (unhide HO5)⟩
            case measure => simp [intOf]; omega
          · have hs1 : ¬ (1007 : Int) < (S.size : Int) := by omega
            have HBIG := hide hbig
            clear hS hbig
            have g0 := (unhide HN1).cell0
            have g1 := (unhide HN1).cell1
            have g2 := (unhide HN1).cell2
            have z0 := (unhide HQ4).free 0
            have z1 := (unhide HQ4).free 1
            have z2 := (unhide HQ4).free 2
            go_wp2
            go_roundw
            case rel =>
              have hnx := unhide HNX
              have hbg := unhide HBIG
              have ht1 := unhide HT1
              subst hnx
              rw [unhide HQE]
              rw [unhide HQE] at HST
              exact ⟨k + 1, _, ps, a1, c1, b1, d1, by omega, by go_num, StdI.goon (unhide HST) (unhide HX) (unhide HMX) hbg (unhide HB4) ht1⟩
            case measure => simp [intOf]; omega
    · have hke : k = its.length := by omega
      have hst := unhide HST
      have HP := hide hst.out
      have hBz : q + 1 ≤ wr.heap.size := hst.one.lt
      have HCE := hide hst.two.i
      have hcu := hst.cut
      rw [List.drop_of_length_le (by omega)] at hcu
      have HCU := hide hcu
      have HLW := hide hst.low
      have i1 : ¬ (k : Int) < (its.length : Int) := by omega
      clear hst hcu hke
      go_wp2_with (at_builtin; refine app_gen (news := [.bool true, .slice a cur.length c, .slice b 0 d]) Try.underlying44 info25 rfl (by decide) rfl _ _ rfl rfl rfl (unhide HP).row hBz rfl ?_ ?_ ?_ ?_; (exact three_one rfl rfl rfl); omega; omega; intro a5 cap5 w5 ho' hg' _; have HO5 := hide ho'; have HG5 := hide hg'; clear ho' hg')
      go_ret
      have hp5 := OwnP.snoc (x := ⟨a, c, b, d, cur⟩) (unhide HP) (by decide) (unhide HCE) (unhide HG5) (unhide HO5)
      have hlen : (ps ++ [(⟨a, c, b, d, cur⟩ : Pt ByteArray)]).length = ps.length + 1 := by simp
      have hlow := unhide HLW
      have hz1 := (unhide HB1).size
      have hbf : Below w1.heap.size w1 w5 := (unhide HBW).grown (unhide HG5) (unhide HBW).size (fun g hg => by have := (World.ownsRow.lt (unhide HP).row g hg).1; omega)
      refine ⟨a5, cap5, ps ++ [⟨a, c, b, d, cur⟩], (by rw [hlen]; rfl), by rw [hlen]; exact hp5.base (by omega), ?_, below_then (unhide HB1) hbf⟩
      rw [unhide HCU, List.map_append]
      rfl
end Go.Proofs.Ytepkifledonldaa
