/- Texts that the proof needs, one behind the other. -/
import Derived.Test.YtdelobaiicoogaaGreatDoorMbh
import Derived.Test.YtdelobaiicoogaaGreatDoorMbi
import Derived.Test.YtdelobaiicoogaaGreatDoorMax
import Derived.Deep.RegionHeld3
/- The program's Check, of a heap to which nodes were only put. -/
namespace Go.Proofs.YtdelobaiicoogaaGreatDoor
open Go.ChangeShapes Go.WideShapes Go.ChangeAt Go.RowKit
attribute [local go_sem] Oper.semAt_some
variable {p d : Nat} {h : Hp} {c : Nat} {F : List Nat}

theorem check_new (w : World) (p : Nat) : SrchAt ((w.alloc (.map #[] 0)).alloc (.cells #[.pointer (some ⟨p, 0, none⟩), .map (some w.heap.size), .int .i64 0, .int .i64 0, .int .i64 0] 107)) (w.heap.size + 1) p w.heap.size ⟨[], 0, 0⟩ := by
  refine ⟨?_, ?_⟩
  · have := heap_alloc_new (w.alloc (.map #[] 0)) (.cells #[.pointer (some ⟨p, 0, none⟩), .map (some w.heap.size), .int .i64 0, .int .i64 0, .int .i64 0] 107)
    rw [World.size_alloc] at this
    exact this
  · exact (Vm.made stR w).same (Below.heap_alloc _ _ _ (by simp))
set_option maxHeartbeats 4000000 in
set_option maxRecDepth 20000 in
theorem tcheck_held {t : Nat} (s : Sane h t) (X : Nat) (hc : 0 < h.cnt (X : Int)) (w : World) (H : IsHeap w p d h c F) :
    Calls Tryz.prog 12 #[.pointer (some ⟨p, 0, none⟩), .int .i64 (X : Int)] w fun e w' => e = .returned (.int .i64 (checkR h (X : Int))) ∧ Below w.heap.size w w' := by
  have hr := sane_range s hc
  have HH := hide (H.grow (below_alloc w (.cells #[.int .i64 (X : Int)] 3)))
  have HE : Hid (heldE h [(X : Int)] = 0) := heldE_is (by omega)
  have HI : Hid (L5.I64 (X : Int)) := by show L5.I64 _; unfold L5.I64; omega
  have hmm := @run_makeMap Tryz.prog
  have hX0 : ((X : Int) == 0) = false := beq_eq_false_iff_ne.2 (by omega)
  have hX1 : ¬ (X : Int) = 0 := by omega
  have HC := hide hc
  have HR := hide hr
  obtain ⟨T, hT⟩ : ∃ T, T = rightR h 42 ⟨[], 0, 0⟩ 1 (X : Int) ⟨#[]⟩ ⟨#[]⟩ := ⟨_, rfl⟩
  have HD : Hid (checkR h (X : Int) = if T.1 = true then 0 else 80) := by
    show checkR h (X : Int) = _
    unfold checkR
    rw [if_neg hX1, if_neg (by omega), hT]
  have HT := hide hT
  clear hc hr H hT
  go_enter Tryz.func12, Tryz.ntmps12
  go_wp2_with (go_at_call 39; refine (theld_one (X : Int) _ _ (unhide HH) (unhide HI) (by simp)).mono ?_; rintro e w1 ⟨rfl, hw⟩; rw [hw]; clear hw w1; rw [unhide HE])
  obtain ⟨mb, hmb⟩ : ∃ x, x = w.heap.size + 1 := ⟨_, rfl⟩
  obtain ⟨sb, hsb⟩ : ∃ x, x = w.heap.size + 1 + 1 := ⟨_, rfl⟩
  have hsrch : SrchAt (((w.alloc (.cells #[.int .i64 (X : Int)] 3)).alloc (.map #[] 0)).alloc (.cells #[.pointer (some ⟨p, 0, none⟩), .map (some (w.heap.size + 1)), .int .i64 0, .int .i64 0, .int .i64 0] 107)) sb p mb ⟨[], 0, 0⟩ := by
    have := check_new (w.alloc (.cells #[.int .i64 (X : Int)] 3)) p
    rw [World.size_alloc] at this
    rw [hsb, hmb]
    exact this
  have hb3 : Below w.heap.size w (((w.alloc (.cells #[.int .i64 (X : Int)] 3)).alloc (.map #[] 0)).alloc (.cells #[.pointer (some ⟨p, 0, none⟩), .map (some (w.heap.size + 1)), .int .i64 0, .int .i64 0, .int .i64 0] 107)) := below_then (below_then (below_alloc _ _) (below_alloc _ _)) (below_alloc _ _)
  have hheap : IsHeap (((w.alloc (.cells #[.int .i64 (X : Int)] 3)).alloc (.map #[] 0)).alloc (.cells #[.pointer (some ⟨p, 0, none⟩), .map (some (w.heap.size + 1)), .int .i64 0, .int .i64 0, .int .i64 0] 107)) p d h c F := ((unhide HH).grow (below_alloc _ _)).grow (below_alloc _ _)
  have hmF : mb ∉ F := fun hx => by have := (unhide HH).lt mb hx; rw [World.size_alloc] at this; omega
  have hpos : 0 < sb ∧ 0 < mb ∧ w.heap.size ≤ mb ∧ w.heap.size ≤ sb := by omega
  rw [← hmb] at hsrch hb3 hheap
  rw [← hsb, ← hmb]
  clear hsb hmb
  generalize ((w.alloc (.cells #[.int .i64 (X : Int)] 3)).alloc (.map #[] 0)).alloc (.cells #[.pointer (some ⟨p, 0, none⟩), .map (some mb), .int .i64 0, .int .i64 0, .int .i64 0] 107) = w3 at *
  have hso : (⟨[], 0, 0⟩ : Sr).Ok := ⟨List.nodup_nil, fun x hx => by simp at hx⟩
  have HCALL := hide (isRight_any s (sb := sb) (mb := mb) hpos.1 hpos.2.1 hmF 42 1 rfl (Nat.le_refl _) X ⟨[], 0, 0⟩ ⟨#[]⟩ ⟨#[]⟩ w3.drew (unhide HC) hso (hheap.grow (below_drew w3)) (SearchAt.grow hsrch (below_drew w3)))
  rw [← unhide HT] at HCALL
  have HEND := hide (fun hT1 => rightR_end s 42 ⟨[], 0, 0⟩ 1 (X : Int) ⟨#[]⟩ ⟨#[]⟩ (Nat.le_refl _) (unhide HC) hT1)
  rw [← unhide HT] at HEND
  have HB3 := hide hb3
  have HSB := hide hpos
  have HSZ := hide hsrch.lt
  clear hsrch hb3 hheap hmF hso hpos hmm hX0 hX1
  refine wp_region_noPanic ?_
  refine wp_region_held_drew (S := fun _ => True) (by kernel_rfl) trivial (fun hHeld => ?_)
  refine L6.takeY 0 (some 23) ?_ rfl rfl (by kernel_rfl) (by kernel_rfl) (by kernel_rfl) (fun _ _ _ h => h) (by rfl) ?_ hHeld ?_
  rotate_left
  · intro w hSw; go_simp <;> with_reducible rfl
  simp only [Act.put, List.setIfInBounds_toArray, List.set_cons_zero, List.set_cons_succ]
  refine L6.takeY 1 (some 24) ?_ rfl rfl (by kernel_rfl) (by kernel_rfl) (by kernel_rfl) (fun _ _ _ h => h) (by rfl) ?_ hHeld ?_
  rotate_left
  · intro w hSw; go_simp <;> with_reducible rfl
  simp only [Act.put, List.setIfInBounds_toArray, List.set_cons_zero, List.set_cons_succ]
  refine wpAnyH_ready (rs := [2]) (by kernel_rfl) (by simp) ?_
  refine AllReadyH.cons rfl (fun K hK => ?_) AllReadyH.nil
  go_simp
  refine (unhide HCALL).mono ?_
  rintro e w5 ⟨rfl, hI5, hM5, hS5⟩
  have hb5 : Below w.heap.size w w5 := by
    have h1 := unhide HB3
    have h2 := unhide HSB
    have h3 := unhide HSZ
    exact L5.Moves.below (h1.drew) hM5 (fun x hx => by simp at hx; omega) (by have h4 : w3.drew.heap.size = w3.heap.size := rfl; have h5 := h1.size; omega)
  have HB5 := hide hb5
  have HI5 := hide hI5
  have HS5 := hide hS5
  clear hb5 hI5 hS5 hM5 HCALL HB3 HH
  refine hK.out _ _ hHeld (fun hHeld => ?_)
  clear hK K
  try simp only [Act.put, List.setIfInBounds_toArray, List.set_cons_zero, List.set_cons_succ]
  obtain ⟨B1, s1⟩ := T
  simp only at HS5 HEND HD ⊢
  cases B1 with
  | false =>
    refine L6.takeY 3 (some 26) ?_ rfl rfl (by kernel_rfl) (by kernel_rfl) (by kernel_rfl) (fun _ _ _ h => h) (by rfl) ?_ hHeld ?_
    rotate_left
    · intro w hSw; go_simp <;> with_reducible rfl
    simp only [Act.put, List.setIfInBounds_toArray, List.set_cons_zero, List.set_cons_succ]
    refine L6.takeY 4 (some 27) ?_ rfl rfl (by kernel_rfl) (by kernel_rfl) (by kernel_rfl) (fun _ _ _ h => h) (by rfl) ?_ hHeld ?_
    rotate_left
    · intro w hSw; go_simp <;> with_reducible rfl
    simp only [Act.put, List.setIfInBounds_toArray, List.set_cons_zero, List.set_cons_succ]
    refine L6.takeN 5 (some 28) rfl rfl (by kernel_rfl) (by kernel_rfl) (by kernel_rfl) (fun _ _ _ h => h) (by rfl) hHeld ?_
    simp only [Act.put, List.setIfInBounds_toArray, List.set_cons_zero, List.set_cons_succ]
    refine L6.takeN 6 (some 29) rfl rfl (by kernel_rfl) (by kernel_rfl) (by kernel_rfl) (fun _ _ _ h => h) (by rfl) hHeld ?_
    simp only [Act.put, List.setIfInBounds_toArray, List.set_cons_zero, List.set_cons_succ]
    refine L6.takeN 7 (some 30) rfl rfl (by kernel_rfl) (by kernel_rfl) (by kernel_rfl) (fun _ _ _ h => h) (by rfl) hHeld ?_
    simp only [Act.put, List.setIfInBounds_toArray, List.set_cons_zero, List.set_cons_succ]
    refine L6.takeN 8 (some 31) rfl rfl (by kernel_rfl) (by kernel_rfl) (by kernel_rfl) (fun _ _ _ h => h) (by rfl) hHeld ?_
    simp only [Act.put, List.setIfInBounds_toArray, List.set_cons_zero, List.set_cons_succ]
    refine L6.takeN 9 (some 32) rfl rfl (by kernel_rfl) (by kernel_rfl) (by kernel_rfl) (fun _ _ _ h => h) (by rfl) hHeld ?_
    simp only [Act.put, List.setIfInBounds_toArray, List.set_cons_zero, List.set_cons_succ]
    refine L6.takeN 10 (some 33) rfl rfl (by kernel_rfl) (by kernel_rfl) (by kernel_rfl) (fun _ _ _ h => h) (by rfl) hHeld ?_
    simp only [Act.put, List.setIfInBounds_toArray, List.set_cons_zero, List.set_cons_succ]
    refine L6.takeN 11 (some 34) rfl rfl (by kernel_rfl) (by kernel_rfl) (by kernel_rfl) (fun _ _ _ h => h) (by rfl) hHeld ?_
    simp only [Act.put, List.setIfInBounds_toArray, List.set_cons_zero, List.set_cons_succ]
    refine L6.takeN 12 (some 35) rfl rfl (by kernel_rfl) (by kernel_rfl) (by kernel_rfl) (fun _ _ _ h => h) (by rfl) hHeld ?_
    simp only [Act.put, List.setIfInBounds_toArray, List.set_cons_zero, List.set_cons_succ]
    refine L6.takeN 13 (some 36) rfl rfl (by kernel_rfl) (by kernel_rfl) (by kernel_rfl) (fun _ _ _ h => h) (by rfl) hHeld ?_
    simp only [Act.put, List.setIfInBounds_toArray, List.set_cons_zero, List.set_cons_succ]
    refine L6.takeN 14 (some 37) rfl rfl (by kernel_rfl) (by kernel_rfl) (by kernel_rfl) (fun _ _ _ h => h) (by rfl) hHeld ?_
    simp only [Act.put, List.setIfInBounds_toArray, List.set_cons_zero, List.set_cons_succ]
    refine L6.takeN 15 (some 38) rfl rfl (by kernel_rfl) (by kernel_rfl) (by kernel_rfl) (fun _ _ _ h => h) (by rfl) hHeld ?_
    simp only [Act.put, List.setIfInBounds_toArray, List.set_cons_zero, List.set_cons_succ]
    refine L6.takeN 16 (some 39) rfl rfl (by kernel_rfl) (by kernel_rfl) (by kernel_rfl) (fun _ _ _ h => h) (by rfl) hHeld ?_
    simp only [Act.put, List.setIfInBounds_toArray, List.set_cons_zero, List.set_cons_succ]
    refine L6.takeN 17 (some 40) rfl rfl (by kernel_rfl) (by kernel_rfl) (by kernel_rfl) (fun _ _ _ h => h) (by rfl) hHeld ?_
    simp only [Act.put, List.setIfInBounds_toArray, List.set_cons_zero, List.set_cons_succ]
    refine L6.takeN 18 (some 41) rfl rfl (by kernel_rfl) (by kernel_rfl) (by kernel_rfl) (fun _ _ _ h => h) (by rfl) hHeld ?_
    simp only [Act.put, List.setIfInBounds_toArray, List.set_cons_zero, List.set_cons_succ]
    refine L6.takeN 19 (some 42) rfl rfl (by kernel_rfl) (by kernel_rfl) (by kernel_rfl) (fun _ _ _ h => h) (by rfl) hHeld ?_
    simp only [Act.put, List.setIfInBounds_toArray, List.set_cons_zero, List.set_cons_succ]
    refine L6.takeN 20 (some 43) rfl rfl (by kernel_rfl) (by kernel_rfl) (by kernel_rfl) (fun _ _ _ h => h) (by rfl) hHeld ?_
    simp only [Act.put, List.setIfInBounds_toArray, List.set_cons_zero, List.set_cons_succ]
    refine L6.takeY 21 (some 44) ?_ rfl rfl (by kernel_rfl) (by kernel_rfl) (by kernel_rfl) (fun _ _ _ h => h) (by rfl) ?_ hHeld ?_
    rotate_left
    · intro w hSw; go_simp <;> with_reducible rfl
    simp only [Act.put, List.setIfInBounds_toArray, List.set_cons_zero, List.set_cons_succ]
    refine wpAnyH_done (by kernel_rfl) ?_ _
    refine NoPanic.normal ?_
    go_wp2
    go_ret
    rw [unhide HD]
    exact ⟨rfl, unhide HB5⟩
  | true =>
    have hs1 := unhide HS5 rfl
    have hen := unhide HEND rfl
    have z3 := SearchAt.cell3 hs1
    have z4 := SearchAt.cell4 hs1
    have z2 := SearchAt.cell2 hs1
    have hl0 : ((s1.lv : Int) == 0) = false := beq_eq_false_iff_ne.2 (by have := hen.lv; omega)
    have hl1 : ((s1.lv : Int) != 0) = true := bne_iff_ne.2 (by have := hen.lv; omega)
    have hgt : ¬ (s1.lv : Int) < (s1.dp : Int) := by have := hen.dp; simp at this; omega
    clear hs1 hen HEND HS5
    refine L6.takeY 3 (some 26) ?_ rfl rfl (by kernel_rfl) (by kernel_rfl) (by kernel_rfl) (fun _ _ _ h => h) (by rfl) ?_ hHeld ?_
    rotate_left
    · intro w hSw; go_simp <;> with_reducible rfl
    simp only [Act.put, List.setIfInBounds_toArray, List.set_cons_zero, List.set_cons_succ]
    refine L6.takeY 4 (some 27) ?_ rfl rfl (by kernel_rfl) (by kernel_rfl) (by kernel_rfl) (fun _ _ _ h => h) (by rfl) ?_ hHeld ?_
    rotate_left
    · intro w hSw; go_simp <;> with_reducible rfl
    simp only [Act.put, List.setIfInBounds_toArray, List.set_cons_zero, List.set_cons_succ]
    refine L6.takeY 5 (some 28) ?_ rfl rfl (by kernel_rfl) (by kernel_rfl) (by kernel_rfl) (fun _ _ _ h => h) (by rfl) ?_ hHeld ?_
    rotate_left
    · intro w hSw; go_simp <;> with_reducible rfl
    simp only [Act.put, List.setIfInBounds_toArray, List.set_cons_zero, List.set_cons_succ]
    refine L6.takeY 6 (some 29) ?_ rfl rfl (by kernel_rfl) (by kernel_rfl) (by kernel_rfl) (fun _ _ _ h => h) (by rfl) ?_ hHeld ?_
    rotate_left
    · intro w hSw; go_simp <;> with_reducible rfl
    simp only [Act.put, List.setIfInBounds_toArray, List.set_cons_zero, List.set_cons_succ]
    refine L6.takeY 7 (some 30) ?_ rfl rfl (by kernel_rfl) (by kernel_rfl) (by kernel_rfl) (fun _ _ _ h => h) (by rfl) ?_ hHeld ?_
    rotate_left
    · intro w hSw; go_simp <;> with_reducible rfl
    simp only [Act.put, List.setIfInBounds_toArray, List.set_cons_zero, List.set_cons_succ]
    refine wpAnyH_ready (rs := [8]) (by kernel_rfl) (by simp) ?_
    refine AllReadyH.cons rfl (fun K hK => ?_) AllReadyH.nil
    go_simp
    refine hK.out _ _ hHeld (fun hHeld => ?_)
    clear hK K
    try simp only [Act.put, List.setIfInBounds_toArray, List.set_cons_zero, List.set_cons_succ]
    refine L6.takeY 9 (some 32) ?_ rfl rfl (by kernel_rfl) (by kernel_rfl) (by kernel_rfl) (fun _ _ _ h => h) (by rfl) ?_ hHeld ?_
    rotate_left
    · intro w hSw; go_simp <;> with_reducible rfl
    simp only [Act.put, List.setIfInBounds_toArray, List.set_cons_zero, List.set_cons_succ]
    refine L6.takeY 10 (some 33) ?_ rfl rfl (by kernel_rfl) (by kernel_rfl) (by kernel_rfl) (fun _ _ _ h => h) (by rfl) ?_ hHeld ?_
    rotate_left
    · intro w hSw; go_simp <;> with_reducible rfl
    simp only [Act.put, List.setIfInBounds_toArray, List.set_cons_zero, List.set_cons_succ]
    refine L6.takeY 11 (some 34) ?_ rfl rfl (by kernel_rfl) (by kernel_rfl) (by kernel_rfl) (fun _ _ _ h => h) (by rfl) ?_ hHeld ?_
    rotate_left
    · intro w hSw; go_simp <;> with_reducible rfl
    simp only [Act.put, List.setIfInBounds_toArray, List.set_cons_zero, List.set_cons_succ]
    refine L6.takeY 12 (some 35) ?_ rfl rfl (by kernel_rfl) (by kernel_rfl) (by kernel_rfl) (fun _ _ _ h => h) (by rfl) ?_ hHeld ?_
    rotate_left
    · intro w hSw; go_simp <;> with_reducible rfl
    simp only [Act.put, List.setIfInBounds_toArray, List.set_cons_zero, List.set_cons_succ]
    refine L6.takeY 13 (some 36) ?_ rfl rfl (by kernel_rfl) (by kernel_rfl) (by kernel_rfl) (fun _ _ _ h => h) (by rfl) ?_ hHeld ?_
    rotate_left
    · intro w hSw; go_simp <;> with_reducible rfl
    simp only [Act.put, List.setIfInBounds_toArray, List.set_cons_zero, List.set_cons_succ]
    refine L6.takeY 15 (some 38) ?_ rfl rfl (by kernel_rfl) (by kernel_rfl) (by kernel_rfl) (fun _ _ _ h => h) (by rfl) ?_ hHeld ?_
    rotate_left
    · intro w hSw; go_simp <;> with_reducible rfl
    simp only [Act.put, List.setIfInBounds_toArray, List.set_cons_zero, List.set_cons_succ]
    refine L6.takeY 16 (some 39) ?_ rfl rfl (by kernel_rfl) (by kernel_rfl) (by kernel_rfl) (fun _ _ _ h => h) (by rfl) ?_ hHeld ?_
    rotate_left
    · intro w hSw; go_simp <;> with_reducible rfl
    simp only [Act.put, List.setIfInBounds_toArray, List.set_cons_zero, List.set_cons_succ]
    refine L6.takeY 17 (some 40) ?_ rfl rfl (by kernel_rfl) (by kernel_rfl) (by kernel_rfl) (fun _ _ _ h => h) (by rfl) ?_ hHeld ?_
    rotate_left
    · intro w hSw; go_simp <;> with_reducible rfl
    simp only [Act.put, List.setIfInBounds_toArray, List.set_cons_zero, List.set_cons_succ]
    refine wpAnyH_ready (rs := [14, 18]) (by kernel_rfl) (by simp) ?_
    refine AllReadyH.cons rfl (fun K hK => ?_) (AllReadyH.cons rfl (fun K hK => ?_) AllReadyH.nil)
    · go_simp
      refine hK.out _ _ hHeld (fun hHeld => ?_)
      clear hK K
      try simp only [Act.put, List.setIfInBounds_toArray, List.set_cons_zero, List.set_cons_succ]
      refine wpAnyH_ready (rs := [18]) (by kernel_rfl) (by simp) ?_
      refine AllReadyH.cons rfl (fun K hK => ?_) AllReadyH.nil
      go_simp
      refine hK.out _ _ hHeld (fun hHeld => ?_)
      clear hK K
      try simp only [Act.put, List.setIfInBounds_toArray, List.set_cons_zero, List.set_cons_succ]
      refine L6.takeY 19 (some 42) ?_ rfl rfl (by kernel_rfl) (by kernel_rfl) (by kernel_rfl) (fun _ _ _ h => h) (by rfl) ?_ hHeld ?_
      rotate_left
      · intro w hSw; go_simp <;> with_reducible rfl
      simp only [Act.put, List.setIfInBounds_toArray, List.set_cons_zero, List.set_cons_succ]
      refine L6.takeY 20 (some 43) ?_ rfl rfl (by kernel_rfl) (by kernel_rfl) (by kernel_rfl) (fun _ _ _ h => h) (by rfl) ?_ hHeld ?_
      rotate_left
      · intro w hSw; go_simp <;> with_reducible rfl
      simp only [Act.put, List.setIfInBounds_toArray, List.set_cons_zero, List.set_cons_succ]
      refine L6.takeY 21 (some 44) ?_ rfl rfl (by kernel_rfl) (by kernel_rfl) (by kernel_rfl) (fun _ _ _ h => h) (by rfl) ?_ hHeld ?_
      rotate_left
      · intro w hSw; go_simp <;> with_reducible rfl
      simp only [Act.put, List.setIfInBounds_toArray, List.set_cons_zero, List.set_cons_succ]
      refine wpAnyH_done (by kernel_rfl) ?_ _
      refine NoPanic.normal ?_
      go_wp2
      go_ret
      rw [unhide HD]
      exact ⟨rfl, unhide HB5⟩
    · go_simp
      refine hK.out _ _ hHeld (fun hHeld => ?_)
      clear hK K
      try simp only [Act.put, List.setIfInBounds_toArray, List.set_cons_zero, List.set_cons_succ]
      refine wpAnyH_ready (rs := [14]) (by kernel_rfl) (by simp) ?_
      refine AllReadyH.cons rfl (fun K hK => ?_) AllReadyH.nil
      go_simp
      refine hK.out _ _ hHeld (fun hHeld => ?_)
      clear hK K
      try simp only [Act.put, List.setIfInBounds_toArray, List.set_cons_zero, List.set_cons_succ]
      refine L6.takeY 19 (some 42) ?_ rfl rfl (by kernel_rfl) (by kernel_rfl) (by kernel_rfl) (fun _ _ _ h => h) (by rfl) ?_ hHeld ?_
      rotate_left
      · intro w hSw; go_simp <;> with_reducible rfl
      simp only [Act.put, List.setIfInBounds_toArray, List.set_cons_zero, List.set_cons_succ]
      refine L6.takeY 20 (some 43) ?_ rfl rfl (by kernel_rfl) (by kernel_rfl) (by kernel_rfl) (fun _ _ _ h => h) (by rfl) ?_ hHeld ?_
      rotate_left
      · intro w hSw; go_simp <;> with_reducible rfl
      simp only [Act.put, List.setIfInBounds_toArray, List.set_cons_zero, List.set_cons_succ]
      refine L6.takeY 21 (some 44) ?_ rfl rfl (by kernel_rfl) (by kernel_rfl) (by kernel_rfl) (fun _ _ _ h => h) (by rfl) ?_ hHeld ?_
      rotate_left
      · intro w hSw; go_simp <;> with_reducible rfl
      simp only [Act.put, List.setIfInBounds_toArray, List.set_cons_zero, List.set_cons_succ]
      refine wpAnyH_done (by kernel_rfl) ?_ _
      refine NoPanic.normal ?_
      go_wp2
      go_ret
      rw [unhide HD]
      exact ⟨rfl, unhide HB5⟩
theorem tcheck_any {t : Nat} (s : Sane h t) (x : Int) (hI : L5.I64 x) (w : World) (H : IsHeap w p d h c F) :
    Calls Tryz.prog 12 #[.pointer (some ⟨p, 0, none⟩), .int .i64 x] w fun e w' => e = .returned (.int .i64 (checkR h x)) ∧ Below w.heap.size w w' := by
  by_cases h0 : x = 0
  · subst h0
    exact tcheck_zero w H
  · by_cases hz : h.cnt x = 0
    · have e : checkR h x = 51 := by unfold checkR; rw [if_neg h0, if_pos hz]
      rw [e]
      exact tcheck_free x w H hI h0 hz
    · have hr := sane_range s (q := x) (by omega)
      obtain ⟨X, rfl⟩ : ∃ X : Nat, x = (X : Int) := ⟨x.toNat, by omega⟩
      exact tcheck_held s X (by omega) w H
end Go.Proofs.YtdelobaiicoogaaGreatDoor

/- The document's look, the whole; its Check. -/
namespace Go.Proofs.YtdelobaiicoogaaGreatDoor
open Go.ChangeShapes Go.WideShapes Go.ChangeAt Go.RowKit
attribute [local go_sem] Oper.semAt_some
variable {w w' : World} {h : Hp} {F : List Nat} {q lb : Nat} {st : Sr}

theorem lookRight_any {t : Nat} (s : Sane h t) (ht : t ≤ 1000000) (h0 : 0 < lb) : ∀ (f lvl : Nat), f + lvl = 43 → 1 ≤ lvl → ∀ (X : Nat) (st : Sr) (fr tt : ByteArray) (w : World), 0 < h.cnt (X : Int) → st.Ok → IsRh w q h F → LookAt w lb q st →
    Calls Tryz.prog 41 #[.pointer (some ⟨lb, 0, none⟩), .int .i64 (X : Int), .int .i64 (lvl : Int), .string fr, .string tt, .bool (bnd tt)] w fun e w' => LookSaid (rightR h f st lvl (X : Int) fr tt) w lb q h F e w'
  | f, lvl, hf, h1, X, st, fr, tt, w, hc, o, H, S => by
    have hr := sane_range s hc
    have hop : h.dk.op.length ≤ 1000000 := Nat.le_trans s.few ht
    obtain ⟨g0, gk⟩ := s.get (X : Int) hc
    obtain ⟨hR, hlen⟩ := getR_right g0
    have hT : getR h (X : Int) = ((getR h (X : Int)).1, 0) := by rw [← g0]
    by_cases hm : X ∈ st.met
    · have e : rightR h f st lvl (X : Int) fr tt = (false, st) := by
        cases f with
        | zero => rfl
        | succ f => unfold rightR; rw [if_pos (.inl hm)]
      rw [e]
      exact look_met X (by omega) lvl fr tt _ w H S hm
    · by_cases h40 : 40 < lvl
      · have e : rightR h f st lvl (X : Int) fr tt = (false, st) := by
          cases f with
          | zero => rfl
          | succ f => unfold rightR; rw [if_pos (.inr h40)]
        rw [e]
        exact look_deep X (by omega) lvl h40 fr tt _ w H S hm
      · match f, hf with
        | 0, hf => exact absurd hf (by omega)
        | f + 1, hf =>
          obtain ⟨n, hn⟩ : ∃ n, n = (getR h (X : Int)).1 := ⟨_, rfl⟩
          have e1 : rightR h (f + 1) st lvl (X : Int) fr tt = (if n.leaf = true then
              (if st.lv = 0 ∨ st.lv = lvl then (leafOkB (firstK n.its) (lastK n.its) fr tt, ⟨X :: st.met, lvl, max st.dp lvl⟩) else (false, st))
              else stepK (fun s y a b => rightR h f s (lvl + 1) y a b) (st.come (X : Int) lvl) n.kds fr tt) := by
            rw [hn]
            conv => lhs; unfold rightR
            rw [if_neg (by rintro (e | e); exact hm e; exact h40 e)]
            rfl
          rw [e1]
          rw [← hn] at hR hlen hT gk
          obtain ⟨L, its, kds⟩ := n
          cases L with
          | true =>
            have hl := leaf_its hR rfl
            rw [if_pos rfl]
            refine look_leaf X (by omega) lvl h1 (by omega) its kds fr tt w H S h0 hm hop hT hl.1 ?_
            have : its.length ≤ 1007 := its_len (n := ⟨true, its, kds⟩) rfl hlen
            omega
          | false =>
            have hl := right_kids hR rfl
            have hit : its = [] := hl.1
            subst hit
            rw [if_neg (show ¬ (false = true) from Bool.false_ne_true)]
            have hkl : kds.length ≤ 1007 := kds_len (n := ⟨false, [], kds⟩) rfl hlen
            have hcn : ∀ y ∈ kds, 0 < h.cnt y.2 := fun y hy => gk y.2 (List.mem_map.2 ⟨y, hy, rfl⟩)
            refine look_kids _ X (by omega) lvl (by omega) kds fr tt w H S o h0 hm hop hT hkl (fun k x hx => kid_key (n := ⟨false, [], kds⟩) hR rfl hx) (fun y st' a b w' hy o' H' S' => ?_) (fun y st' a b hy o' hT' => ?_)
            · have hry := sane_range s (hcn y hy)
              obtain ⟨Y, hY⟩ : ∃ Y : Nat, y.2 = (Y : Int) := ⟨y.2.toNat, by omega⟩
              have hcy := hcn y hy
              rw [hY] at hcy ⊢
              exact lookRight_any s ht h0 f (lvl + 1) (by omega) (by omega) Y st' a b w' hcy o' H' S'
            · exact (rightR_end s f st' (lvl + 1) y.2 a b (by omega) (hcn y hy) hT').ok o'

set_option maxHeartbeats 4000000 in
set_option maxRecDepth 20000 in
theorem rcheck_any {t : Nat} (s : Sane h t) (ht : t ≤ 1000000) (x : Int) (hI : L5.I64 x) (w : World) (H : IsRh w q h F) :
    Calls Tryz.prog 13 #[.pointer (some ⟨q, 0, none⟩), .int .i64 x] w fun e w' => e = .returned (.int .i64 (checkR h x)) ∧ Below w.heap.size w w' := by
  by_cases h0 : x = 0
  · subst h0
    go_enter Tryz.func13, Tryz.ntmps13
    go_wp2
    go_ret
    exact ⟨rfl, Below.refl _ _⟩
  · have HR := H
    obtain ⟨r, a, g, fr, kv, H, rfl⟩ := H
    have c1 := H.cell1
    have HC := hide (L5.rcount_any x hI w H.al)
    have hx0 : (x == 0) = false := beq_eq_false_iff_ne.2 h0
    have HH := hide HR
    by_cases hz : h.cnt x = 0
    · have hz' : ((L5.cntS (L5.sec 2 h.al x) : Nat) : Int) = 0 := by have : L5.cntS (L5.sec 2 h.al x) = 0 := hz; omega
      have e : checkR h x = 51 := by unfold checkR; rw [if_neg h0, if_pos hz]
      rw [e]
      rw [hz'] at HC
      clear H HR hz hz' e
      go_enter Tryz.func13, Tryz.ntmps13
      go_wp2_with (go_at_call 32; refine (unhide HC).mono ?_; rintro e w1 ⟨rfl, hb1⟩)
      go_ret
      exact ⟨rfl, hb1⟩
    · have hz' : (((L5.cntS (L5.sec 2 h.al x) : Nat) : Int) == 0) = false := beq_eq_false_iff_ne.2 (by have : ¬ L5.cntS (L5.sec 2 h.al x) = 0 := hz; omega)
      have hz2 : ¬ ((L5.cntS (L5.sec 2 h.al x) : Nat) : Int) = 0 := by have : ¬ L5.cntS (L5.sec 2 h.al x) = 0 := hz; omega
      have hr := sane_range s (q := x) (by omega)
      obtain ⟨X, rfl⟩ : ∃ X : Nat, x = (X : Int) := ⟨x.toNat, by omega⟩
      have hc : 0 < h.cnt (X : Int) := by omega
      obtain ⟨T, hT⟩ : ∃ T, T = rightR h 42 ⟨[], 0, 0⟩ 1 (X : Int) ⟨#[]⟩ ⟨#[]⟩ := ⟨_, rfl⟩
      have HD : Hid (checkR h (X : Int) = if T.1 = true then 0 else 80) := by
        show checkR h (X : Int) = _
        unfold checkR
        rw [if_neg h0, if_neg hz, hT]
      have HT := hide hT
      have HCN := hide hc
      obtain ⟨C, hC⟩ : ∃ y, y = ((L5.cntS (L5.sec 2 h.al (X : Int)) : Nat) : Int) := ⟨_, rfl⟩
      rw [← hC] at HC hz' hz2
      clear H HR hz hT hc hr hC
      go_enter Tryz.func13, Tryz.ntmps13
      go_wp2_with (first
        | (go_at_call 32; refine (unhide HC).mono ?_; rintro e w1 ⟨rfl, hb1⟩; have HB1 := hide hb1; clear hb1)
        | (refine wp_buildLook rfl _ rfl rfl ?_; intro v hv; have HV := hide hv; clear hv)
        | (refine wp_boxLook rfl _ rfl (unhide HV) ?_; intro w3 hw3; have HW := hide hw3; clear hw3))
      have hb1 := unhide HB1
      have hw := unhide HW
      have hsz := (unhide HH).lt q (by simp [rfoot])
      have hsz1 := hb1.size
      have hb2 : Below w.heap.size w (w1.alloc (.cells (lookV q ⟨[], 0, 0⟩).toArray 112)) := below_then hb1 (below_alloc w1 _)
      have hc := lookRight_any s ht (lb := w1.heap.size) (by omega) 42 1 rfl (Nat.le_refl _) X ⟨[], 0, 0⟩ ⟨#[]⟩ ⟨#[]⟩ _ (unhide HCN) ⟨List.nodup_nil, fun x hx => by simp at hx⟩ (((unhide HH).grow hb1).grow (below_alloc w1 (.cells (lookV q ⟨[], 0, 0⟩).toArray 112))) (LookAt.new w1 q)
      rw [← unhide HT] at hc
      have hb0 : bnd ⟨#[]⟩ = false := by decide
      rw [hb0] at hc
      rw [← hw] at hc hb2
      clear hw HW
      refine hc.mono ?_
      rintro e w5 ⟨rfl, hI5, hM5, _⟩
      have hb5 : Below w.heap.size w w5 := L5.Moves.below hb2 hM5 (fun x hx => by simp at hx; omega) hb2.size
      have HB5 := hide hb5
      clear hc hI5 hM5 hb5 hb2 hsz hsz1 hb1 hb0
      obtain ⟨B1, s1⟩ := T
      simp only at HD ⊢
      cases B1 with
      | true =>
        go_wp2
        go_ret
        rw [unhide HD]
        exact ⟨rfl, unhide HB5⟩
      | false =>
        go_wp2
        go_ret
        rw [unhide HD]
        exact ⟨rfl, unhide HB5⟩
end Go.Proofs.YtdelobaiicoogaaGreatDoor

/- What Put makes of a leaf's items. -/
namespace Go.Proofs.YtdelobaiicoogaaGreatDoor
open Go.ChangeShapes Go.WideShapes Go.ChangeAt Go.RowKit
attribute [local go_sem] Oper.semAt_some
variable {w w' : World} {p d : Nat} {h : Hp} {c : Nat} {F : List Nat}

/-- a leaf's items, but that the key has the value -/
def putI (its : List L6.It) (key val : ByteArray) : List L6.It := its.take (placeN its key).1 ++ [(key, val)] ++ its.drop (placeN its key).2
theorem cell_in {W : World} {g i : Nat} {cs : Array Value} {ty : TypeId} {v : Value} (h : W.heap[g]? = some (.cells cs ty (0, 0))) (hv : cs[i]? = some v) : W.cell? ⟨g, i, none⟩ = some v := by simp [World.cell?, h, hv]
theorem rowAt_take {w : World} {b off : Nat} {l : List L6.It} (hr : L6.RowAt itV w b off l) (k : Nat) : L6.RowAt itV w b off (l.take k) := by
  intro i x hx
  refine hr i x ?_
  rw [List.getElem?_take] at hx
  split at hx
  · exact hx
  · cases hx
theorem rowAt_drop {w : World} {b off : Nat} {l : List L6.It} (hr : L6.RowAt itV w b off l) (k : Nat) : L6.RowAt itV w b (off + k * 2) (l.drop k) := by
  intro i x hx
  rw [List.getElem?_drop] at hx
  have h := hr (k + i) x hx
  have e : off + (k + i) * 2 = off + k * 2 + i * 2 := by omega
  rw [e] at h
  exact h
theorem three_ok {W : World} {its : List L6.It} {b off ci fr to' : Nat} {key val : ByteArray} (hr : L6.RowAt itV W b off its) (h1 : fr ≤ its.length) (a3 : Option Addr) (c3 : Nat) (h3 : L6.Row itV W a3 (its.drop to')) :
    ∀ (i : Nat) (x : Pt3), ([((some ⟨b, off, none⟩ : Option Addr), ci, its.take fr), ((some ⟨W.heap.size, 0, none⟩ : Option Addr), 1, [(key, val)]), (a3, c3, its.drop to')] : List Pt3)[i]? = some x →
      ((W.alloc (.cells #[.string key, .string val] 58)).alloc (.cells #[.slice (some ⟨b, off, none⟩) fr ci, .slice (some ⟨W.heap.size, 0, none⟩) 1 1, .slice a3 (its.length - to') c3] 35)).cell? ⟨W.heap.size + 1, i, none⟩ = some (.slice x.1 x.2.2.length x.2.1) ∧
      L6.Row itV ((W.alloc (.cells #[.string key, .string val] 58)).alloc (.cells #[.slice (some ⟨b, off, none⟩) fr ci, .slice (some ⟨W.heap.size, 0, none⟩) 1 1, .slice a3 (its.length - to') c3] 35)) x.1 x.2.2 := by
  have b1 := below_alloc W (.cells #[.string key, .string val] 58)
  have b2 := below_alloc (W.alloc (.cells #[.string key, .string val] 58)) (.cells #[.slice (some ⟨b, off, none⟩) fr ci, .slice (some ⟨W.heap.size, 0, none⟩) 1 1, .slice a3 (its.length - to') c3] 35)
  have hn := heap_alloc_new (W.alloc (.cells #[.string key, .string val] 58)) (.cells #[.slice (some ⟨b, off, none⟩) fr ci, .slice (some ⟨W.heap.size, 0, none⟩) 1 1, .slice a3 (its.length - to') c3] 35)
  rw [World.size_alloc] at hn
  intro i x hx
  match i, hx with
  | 0, hx =>
    cases hx
    refine ⟨?_, .inr ⟨b, off, rfl, (rowAt_take (hr.grow (below_then b1 b2)) fr)⟩⟩
    have e : (its.take fr).length = fr := by rw [List.length_take]; omega
    refine cell_in hn ?_
    rw [e]
    rfl
  | 1, hx =>
    cases hx
    refine ⟨cell_in hn rfl, .inr ⟨W.heap.size, 0, rfl, ?_⟩⟩
    intro j y hy
    match j, hy with
    | 0, hy =>
      cases hy
      have hm : ((W.alloc (.cells #[.string key, .string val] 58)).alloc (.cells #[.slice (some ⟨b, off, none⟩) fr ci, .slice (some ⟨W.heap.size, 0, none⟩) 1 1, .slice a3 (its.length - to') c3] 35)).heap[W.heap.size]? = some (.cells #[.string key, .string val] 58 (0, 0)) :=
        (b2.block _ (by rw [World.size_alloc]; omega)).trans (heap_alloc_new W _)
      exact ⟨cell_in hm rfl, cell_in hm rfl⟩
    | j + 1, hy => simp at hy
  | 2, hx =>
    cases hx
    refine ⟨?_, h3.grow (below_then b1 b2)⟩
    have e : (its.drop to').length = its.length - to' := List.length_drop
    refine cell_in hn ?_
    rw [e]
    rfl
  | i + 3, hx => simp at hx
theorem three_okD {W : World} {its : List L6.It} {b off ci fr to' : Nat} {key val : ByteArray} (hr : L6.RowAt itV W b off its) (h1 : fr ≤ its.length) (a3 : Option Addr) (c3 : Nat) (h3 : L6.Row itV W a3 (its.drop to')) :
    ∀ (i : Nat) (x : Pt3), ([((some ⟨b, off, none⟩ : Option Addr), ci, its.take fr), ((some ⟨W.heap.size, 0, none⟩ : Option Addr), 1, [(key, val)]), (a3, c3, its.drop to')] : List Pt3)[i]? = some x →
      ((W.alloc (.cells #[.string key, .string val] 58)).alloc (.cells #[.slice (some ⟨b, off, none⟩) fr ci, .slice (some ⟨W.heap.size, 0, none⟩) 1 1, .slice a3 (its.length - to') c3] 35)).drew.cell? ⟨W.heap.size + 1, i, none⟩ = some (.slice x.1 x.2.2.length x.2.1) ∧
      L6.Row itV ((W.alloc (.cells #[.string key, .string val] 58)).alloc (.cells #[.slice (some ⟨b, off, none⟩) fr ci, .slice (some ⟨W.heap.size, 0, none⟩) 1 1, .slice a3 (its.length - to') c3] 35)).drew x.1 x.2.2 :=
  fun i x hx => ⟨(three_ok hr h1 a3 c3 h3 i x hx).1, ((three_ok hr h1 a3 c3 h3 i x hx).2).grow (below_drew _)⟩
theorem three_calls {W : World} {its : List L6.It} {b off ci fr to' : Nat} {key val : ByteArray} (hr : L6.RowAt itV W b off its) (h1 : fr ≤ its.length) (hl : its.length ≤ 1100) (a3 : Option Addr) (c3 : Nat) (h3 : L6.Row itV W a3 (its.drop to')) :
    Calls Tryz.prog 48 #[.slice (some ⟨W.heap.size + 1, 0, none⟩) 3 3] ((W.alloc (.cells #[.string key, .string val] 58)).alloc (.cells #[.slice (some ⟨b, off, none⟩) fr ci, .slice (some ⟨W.heap.size, 0, none⟩) 1 1, .slice a3 (its.length - to') c3] 35)).drew
      fun e w' => ∃ v, e = .returned v ∧ OwnI W.heap.size w' v (its.take fr ++ [(key, val)] ++ its.drop to') ∧ Below W.heap.size W w' := by
  have b1 := below_alloc W (.cells #[.string key, .string val] 58)
  have b2 := below_then b1 (below_alloc (W.alloc (.cells #[.string key, .string val] 58)) (.cells #[.slice (some ⟨b, off, none⟩) fr ci, .slice (some ⟨W.heap.size, 0, none⟩) 1 1, .slice a3 (its.length - to') c3] 35))
  have h := concat_any ([((some ⟨b, off, none⟩ : Option Addr), ci, its.take fr), ((some ⟨W.heap.size, 0, none⟩ : Option Addr), 1, [(key, val)]), (a3, c3, its.drop to')] : List Pt3) (W.heap.size + 1) 3 _ (three_okD hr h1 a3 c3 h3)
    (by
      unfold lens
      simp only [List.map_cons, List.map_nil, List.sum_cons, List.sum_nil, List.length_take, List.length_drop, List.length_cons, List.length_nil]
      omega) (by show 3 ≤ 1000; decide)
  have b3 := below_then b2 (below_drew _)
  refine h.mono ?_
  rintro e w' ⟨v, rfl, ho, hb⟩
  have hc : cat ([((some ⟨b, off, none⟩ : Option Addr), ci, its.take fr), ((some ⟨W.heap.size, 0, none⟩ : Option Addr), 1, [(key, val)]), (a3, c3, its.drop to')] : List Pt3) = its.take fr ++ [(key, val)] ++ its.drop to' := by
    unfold cat
    simp
  rw [hc] at ho
  exact ⟨v, rfl, ho.base b3.size, below_then b3 hb⟩
theorem three_calls0 {W : World} {its : List L6.It} {b off ci fr to' : Nat} {key val : ByteArray} (hr : L6.RowAt itV W b off its) (h1 : fr ≤ its.length) (hl : its.length ≤ 1100) (a3 : Option Addr) (hd : its.drop to' = []) :
    Calls Tryz.prog 48 #[.slice (some ⟨W.heap.size + 1, 0, none⟩) 3 3] ((W.alloc (.cells #[.string key, .string val] 58)).alloc (.cells #[.slice (some ⟨b, off, none⟩) fr ci, .slice (some ⟨W.heap.size, 0, none⟩) 1 1, .slice a3 0 0] 35)).drew
      fun e w' => ∃ v, e = .returned v ∧ OwnI W.heap.size w' v (its.take fr ++ [(key, val)] ++ its.drop to') ∧ Below W.heap.size W w' := by
  have e : its.length - to' = 0 := by
    have := congrArg List.length hd
    rw [List.length_drop] at this
    exact this
  have h := three_calls (key := key) (val := val) (ci := ci) (to' := to') hr h1 hl a3 0 (.inl hd)
  rw [e] at h
  exact h
set_option maxHeartbeats 4000000 in
set_option maxRecDepth 20000 in
theorem edit_put (its : List L6.It) (b off ci : Nat) (key val : ByteArray) (kc vc : Nat) (w : World) (hr : L6.RowAt itV w b off its) (hci : its.length ≤ ci) (hl : its.length ≤ 1100)
    (hk : w.cell? ⟨kc, 0, none⟩ = some (.string key)) (hv : w.cell? ⟨vc, 0, none⟩ = some (.string val)) :
    Calls Tryz.prog 46 #[.slice (some ⟨b, off, none⟩) its.length ci, .pointer (some ⟨kc, 0, none⟩), .pointer (some ⟨vc, 0, none⟩)] w fun e w' => ∃ v, e = .returned v ∧ OwnI w.heap.size w' v (putI its key val) ∧ Below w.heap.size w w' := by
  have HPL := hide (placeOf_any its (some ⟨b, off, none⟩) ci key w (.inr ⟨b, off, rfl, hr⟩) (by omega))
  have hpl := placeN_le its key
  have HR := hide hr
  unfold putI
  clear hr
  generalize placeN its key = T at *
  obtain ⟨fr, to'⟩ := T
  simp only at HPL hpl ⊢
  obtain ⟨hp1, hp2⟩ := hpl
  have hfc : fr ≤ ci := by omega
  by_cases hca : ci = to'
  · have HDR : Hid (its.drop to' = []) := by
      show _ = _
      rw [show to' = its.length by omega, List.drop_length]
    subst hca
    go_enter Tryz.func46, Tryz.ntmps46
    go_wp2_with (go_at_call 47; refine (unhide HPL).mono ?_; rintro e w1 ⟨rfl, hb1⟩; have k1 := (hb1.cell (World.block_lt_of_cell? _ _ hk)).trans hk; have v1 := (hb1.cell (World.block_lt_of_cell? _ _ hv)).trans hv; have HB1 := hide hb1; clear hb1)
    clear hk hv
    have HR1 := hide ((unhide HR).grow (unhide HB1))
    go_region_held3 (fun w' => w'.cell? ⟨kc, 0, none⟩ = some (.string key) ∧ w'.cell? ⟨vc, 0, none⟩ = some (.string val))
      (first | assumption | exact ⟨k1, v1⟩ | exact ⟨k5, l5⟩ | exact ⟨cell_later _ k1, cell_later _ v1⟩ | exact ⟨cell_later _ (cell_later _ k1), cell_later _ (cell_later _ v1)⟩)
      (first | (go_at_call 48; refine (three_calls0 (fr := fr) (unhide HR1) (by omega) hl _ (unhide HDR)).mono ?_; rintro e w5 ⟨v5, rfl, ho5, hb5⟩; have k5 := (hb5.cell (World.block_lt_of_cell? _ _ k1)).trans k1; have l5 := (hb5.cell (World.block_lt_of_cell? _ _ v1)).trans v1; have HX := hide (And.intro ho5 hb5); clear ho5 hb5))
    go_wp2
    go_ret
    exact ⟨_, rfl, (unhide HX).1.base (unhide HB1).size, below_then (unhide HB1) (unhide HX).2⟩
  · have hca' : ¬ (ci : Int) = (to' : Int) := by omega
    go_enter Tryz.func46, Tryz.ntmps46
    go_wp2_with (go_at_call 47; refine (unhide HPL).mono ?_; rintro e w1 ⟨rfl, hb1⟩; have k1 := (hb1.cell (World.block_lt_of_cell? _ _ hk)).trans hk; have v1 := (hb1.cell (World.block_lt_of_cell? _ _ hv)).trans hv; have HB1 := hide hb1; clear hb1)
    clear hk hv
    have HR1 := hide ((unhide HR).grow (unhide HB1))
    go_region_held3 (fun w' => w'.cell? ⟨kc, 0, none⟩ = some (.string key) ∧ w'.cell? ⟨vc, 0, none⟩ = some (.string val))
      (first | assumption | exact ⟨k1, v1⟩ | exact ⟨k5, l5⟩ | exact ⟨cell_later _ k1, cell_later _ v1⟩ | exact ⟨cell_later _ (cell_later _ k1), cell_later _ (cell_later _ v1)⟩)
      (first | (go_at_call 48; refine (three_calls (unhide HR1) (by omega) hl _ _ (.inr ⟨b, off + to' * 2, rfl, rowAt_drop (unhide HR1) to'⟩)).mono ?_; rintro e w5 ⟨v5, rfl, ho5, hb5⟩; have k5 := (hb5.cell (World.block_lt_of_cell? _ _ k1)).trans k1; have l5 := (hb5.cell (World.block_lt_of_cell? _ _ v1)).trans v1; have HX := hide (And.intro ho5 hb5); clear ho5 hb5))
    go_wp2
    go_ret
    exact ⟨_, rfl, (unhide HX).1.base (unhide HB1).size, below_then (unhide HB1) (unhide HX).2⟩
end Go.Proofs.YtdelobaiicoogaaGreatDoor
