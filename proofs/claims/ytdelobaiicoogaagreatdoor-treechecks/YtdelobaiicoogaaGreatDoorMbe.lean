/- Texts that the proof needs, one behind the other. -/
import Derived.Test.YtdelobaiicoogaaGreatDoorMao
/- What the document's Wrap does: the same. -/
namespace Go.Proofs.YtdelobaiicoogaaGreatDoor.L4
open Go.ChangeShapes Go.WideShapes Go.ChangeAt Go.RowKit

set_option maxHeartbeats 400000 in
theorem rwrap_arg (K G : Int) (P : ByteArray) (w : World) (h : K < 0 ∨ 255 < K ∨ G < 0 ∨ 1152921504606846976 < G) :
    Calls Tryz.prog 34 #[.agg #[.int .i64 K, .int .i64 G, .string P]] w fun e w' => e = .returned (.tuple #[.string ⟨#[]⟩, .int .i64 1]) ∧ Below w.heap.size w w' := by
  by_cases h1 : K < 0
  · clear h
    go_enter Tryz.func34, Tryz.ntmps34
    go_wp2
    go_ret2
    exact ⟨rfl, (Below.refl _ _).alloc (Nat.le_refl _) _⟩
  · by_cases h2 : 255 < K
    · clear h
      go_enter Tryz.func34, Tryz.ntmps34
      go_wp2
      go_ret2
      exact ⟨rfl, (Below.refl _ _).alloc (Nat.le_refl _) _⟩
    · by_cases h3 : G < 0
      · clear h
        go_enter Tryz.func34, Tryz.ntmps34
        go_wp2
        go_ret2
        exact ⟨rfl, (Below.refl _ _).alloc (Nat.le_refl _) _⟩
      · have h4 : 1152921504606846976 < G := by omega
        clear h
        go_enter Tryz.func34, Tryz.ntmps34
        go_wp2
        go_ret2
        exact ⟨rfl, (Below.refl _ _).alloc (Nat.le_refl _) _⟩

set_option maxHeartbeats 400000 in
theorem rwrap_big (K G : Int) (P : ByteArray) (w : World) (h : ¬ (K < 0 ∨ 255 < K ∨ G < 0 ∨ 1152921504606846976 < G)) (hp : 1007 < P.size) :
    Calls Tryz.prog 34 #[.agg #[.int .i64 K, .int .i64 G, .string P]] w fun e w' => e = .returned (.tuple #[.string ⟨#[]⟩, .int .i64 61]) ∧ Below w.heap.size w w' := by
  have h1 : ¬ K < 0 := by omega
  have h2 : ¬ 255 < K := by omega
  have h3 : ¬ G < 0 := by omega
  have h4 : ¬ 1152921504606846976 < G := by omega
  clear h
  go_enter Tryz.func34, Tryz.ntmps34
  go_wp2
  go_ret2
  exact ⟨rfl, (Below.refl _ _).alloc (Nat.le_refl _) _⟩
set_option maxRecDepth 10000 in
set_option maxHeartbeats 4000000 in
theorem rwrap_ok (k g : Nat) (P : ByteArray) (w : World) (hT : Tab w) (hk : k ≤ 255) (hg : g ≤ 1152921504606846976) (hp : P.size ≤ 1007) :
    Calls Tryz.prog 34 #[.agg #[.int .i64 (k : Int), .int .i64 (g : Int), .string P]] w fun e w' => e = .returned (.tuple #[.string (strOf (Blk.sector k g (bn P))), .int .i64 0]) ∧ Below w.heap.size w w' := by
  have HT := hide hT
  clear hT
  have h4 : ¬ (1152921504606846976 : Int) < (g : Int) := by omega
  have v1 : IntKind.u64.wrap (g : Int) = (g : Int) := by rw [IntKind.wrap_u64]; omega
  have v2 : IntKind.u8.wrap (k : Int) = (k : Int) := by rw [IntKind.wrap_u8]; omega
  have v3 : IntKind.u8.wrap ((P.size : Int) / 256) = (P.size : Int) / 256 := by rw [IntKind.wrap_u8]; omega
  have v4 : IntKind.u8.wrap (P.size : Int) = (P.size : Int) % 256 := by rw [IntKind.wrap_u8]
  have hcv := three_conv
  have hcv2 := three_conv_drew
  have hF := fun W => refFixed_any (g : Int) W (by omega)
  rw [Int.toNat_natCast] at hF
  have HF := hide hF
  clear hF
  go_enter Tryz.func34, Tryz.ntmps34
  go_wp2_with fail
  have HX := Box.new w (.int .i64 (k : Int)) (.int .i64 (g : Int)) (.string P)
  generalize w.alloc (.cells #[.int .i64 (k : Int), .int .i64 (g : Int), .string P] 90) = w1 at *
  have r1 := add_run ⟨#[67, 80]⟩
  have r5 := add_run (⟨#[67, 80]⟩ ++ strOfNums [(k : Int), (P.size : Int) / 256, (P.size : Int) % 256] ++ strOf (Pk.fixL g)) P (by rw [text_size]; omega)
  have r2 := add_run (⟨#[67, 80]⟩ ++ strOfNums [(k : Int), (P.size : Int) / 256, (P.size : Int) % 256]) (strOf (Pk.fixL g)) (by rw [ByteArray.size_append, strOfNums_size, strOf_size]; show 2 + 3 + 8 ≤ 1000000; decide)
  have z3 : ∀ a b c : Int, (strOfNums [a, b, c]).size = 3 := fun a b c => by rw [strOfNums_size]; rfl
  refine wp_region_noPanic ?_
  refine wp_region_held_drew (S := fun w' => Below w.heap.size w w' ∧ w'.cell? ⟨w.heap.size, 0, none⟩ = some (.int .i64 (k : Int)) ∧ w'.cell? ⟨w.heap.size, 1, none⟩ = some (.int .i64 (g : Int)) ∧ w'.cell? ⟨w.heap.size, 2, none⟩ = some (.string P)) (by kernel_rfl) HX.drew (fun hHeld => ?_)
  refine takeY 0 (some 32) ?_ rfl rfl (by kernel_rfl) (by kernel_rfl) (by kernel_rfl) (fun _ _ _ h => h) (by rfl) ?_ hHeld ?_
  rotate_left
  · intro w hSw; go_simp <;> with_reducible rfl
  simp only [Act.put, List.setIfInBounds_toArray, List.set_cons_zero, List.set_cons_succ]
  refine takeY 1 (some 33) ?_ rfl rfl (by kernel_rfl) (by kernel_rfl) (by kernel_rfl) (fun _ _ _ h => h) (by rfl) ?_ hHeld ?_
  rotate_left
  · intro w hSw; go_simp <;> with_reducible rfl
  simp only [Act.put, List.setIfInBounds_toArray, List.set_cons_zero, List.set_cons_succ]
  refine takeY 2 (some 34) ?_ rfl rfl (by kernel_rfl) (by kernel_rfl) (by kernel_rfl) (fun _ _ _ h => h) (by rfl) ?_ hHeld ?_
  rotate_left
  · intro w hSw; go_simp <;> with_reducible rfl
  simp only [Act.put, List.setIfInBounds_toArray, List.set_cons_zero, List.set_cons_succ]
  refine takeY 3 (some 35) ?_ rfl rfl (by kernel_rfl) (by kernel_rfl) (by kernel_rfl) (fun _ _ _ h => h) (by rfl) ?_ hHeld ?_
  rotate_left
  · intro w hSw; go_simp <;> with_reducible rfl
  simp only [Act.put, List.setIfInBounds_toArray, List.set_cons_zero, List.set_cons_succ]
  refine takeY 4 (some 36) ?_ rfl rfl (by kernel_rfl) (by kernel_rfl) (by kernel_rfl) (fun _ _ _ h => h) (by rfl) ?_ hHeld ?_
  rotate_left
  · intro w hSw; go_simp <;> with_reducible rfl
  simp only [Act.put, List.setIfInBounds_toArray, List.set_cons_zero, List.set_cons_succ]
  refine takeY 5 (some 37) ?_ rfl rfl (by kernel_rfl) (by kernel_rfl) (by kernel_rfl) (fun _ _ _ h => h) (by rfl) ?_ hHeld ?_
  rotate_left
  · intro w hSw; go_simp <;> with_reducible rfl
  simp only [Act.put, List.setIfInBounds_toArray, List.set_cons_zero, List.set_cons_succ]
  refine takeY 6 (some 38) ?_ rfl rfl (by kernel_rfl) (by kernel_rfl) (by kernel_rfl) (fun _ _ _ h => h) (by rfl) ?_ hHeld ?_
  rotate_left
  · intro w hSw; go_simp <;> with_reducible rfl
  simp only [Act.put, List.setIfInBounds_toArray, List.set_cons_zero, List.set_cons_succ]
  refine takeY 7 (some 39) ?_ rfl rfl (by kernel_rfl) (by kernel_rfl) (by kernel_rfl) (fun _ _ _ h => h) (by rfl) ?_ hHeld ?_
  rotate_left
  · intro w hSw; go_simp <;> with_reducible rfl
  simp only [Act.put, List.setIfInBounds_toArray, List.set_cons_zero, List.set_cons_succ]
  refine takeY 11 (some 43) ?_ rfl rfl (by kernel_rfl) (by kernel_rfl) (by kernel_rfl) (fun _ _ _ h => h) (by rfl) ?_ hHeld ?_
  rotate_left
  · intro w hSw; go_simp <;> with_reducible rfl
  simp only [Act.put, List.setIfInBounds_toArray, List.set_cons_zero, List.set_cons_succ]
  refine takeY 12 (some 44) ?_ rfl rfl (by kernel_rfl) (by kernel_rfl) (by kernel_rfl) (fun _ _ _ h => h) (by rfl) ?_ hHeld ?_
  rotate_left
  · intro w hSw; go_simp <;> with_reducible rfl
  simp only [Act.put, List.setIfInBounds_toArray, List.set_cons_zero, List.set_cons_succ]
  refine takeY 13 (some 45) ?_ rfl rfl (by kernel_rfl) (by kernel_rfl) (by kernel_rfl) (fun _ _ _ h => h) (by rfl) ?_ hHeld ?_
  rotate_left
  · intro w hSw; go_simp <;> with_reducible rfl
  simp only [Act.put, List.setIfInBounds_toArray, List.set_cons_zero, List.set_cons_succ]
  refine takeY 16 (some 48) ?_ rfl rfl (by kernel_rfl) (by kernel_rfl) (by kernel_rfl) (fun _ _ _ h => h) (by rfl) ?_ hHeld ?_
  rotate_left
  · intro w hSw; go_simp <;> with_reducible rfl
  simp only [Act.put, List.setIfInBounds_toArray, List.set_cons_zero, List.set_cons_succ]
  refine takeY 17 (some 49) ?_ rfl rfl (by kernel_rfl) (by kernel_rfl) (by kernel_rfl) (fun _ _ _ h => h) (by rfl) ?_ hHeld ?_
  rotate_left
  · intro w hSw; go_simp <;> with_reducible rfl
  simp only [Act.put, List.setIfInBounds_toArray, List.set_cons_zero, List.set_cons_succ]
  refine wpAnyH_ready (rs := [8, 14]) (by kernel_rfl) (by simp) ?_
  refine AllReadyH.cons rfl (fun K hK => ?_) (AllReadyH.cons rfl (fun K hK => ?_) AllReadyH.nil)
  · go_simp
    refine hK.out _ _ (Box.alloc hHeld _) (fun hHeld => ?_)
    clear hK K
    try simp only [Act.put, List.setIfInBounds_toArray, List.set_cons_zero, List.set_cons_succ]
    refine wpAnyH_ready (rs := [9, 14]) (by kernel_rfl) (by simp) ?_
    refine AllReadyH.cons rfl (fun K hK => ?_) (AllReadyH.cons rfl (fun K hK => ?_) AllReadyH.nil)
    · go_simp
      refine hK.out _ _ hHeld (fun hHeld => ?_)
      clear hK K
      try simp only [Act.put, List.setIfInBounds_toArray, List.set_cons_zero, List.set_cons_succ]
      refine takeY 10 (some 42) ?_ rfl rfl (by kernel_rfl) (by kernel_rfl) (by kernel_rfl) (fun _ _ _ h => h) (by rfl) ?_ hHeld ?_
      rotate_left
      · intro w hSw; go_simp <;> with_reducible rfl
      simp only [Act.put, List.setIfInBounds_toArray, List.set_cons_zero, List.set_cons_succ]
      refine wpAnyH_ready (rs := [14]) (by kernel_rfl) (by simp) ?_
      refine AllReadyH.cons rfl (fun K hK => ?_) AllReadyH.nil
      go_simp
      refine (unhide HF _).mono ?_
      rintro e w2 ⟨rfl, hb2⟩
      have HX2 := Box.then hHeld hb2
      refine hK.out _ _ HX2 (fun hHeld => ?_)
      clear hK K
      try simp only [Act.put, List.setIfInBounds_toArray, List.set_cons_zero, List.set_cons_succ]
      refine takeY 15 (some 47) ?_ rfl rfl (by kernel_rfl) (by kernel_rfl) (by kernel_rfl) (fun _ _ _ h => h) (by rfl) ?_ hHeld ?_
      rotate_left
      · intro w hSw; go_simp <;> with_reducible rfl
      simp only [Act.put, List.setIfInBounds_toArray, List.set_cons_zero, List.set_cons_succ]
      refine takeY 18 (some 50) ?_ rfl rfl (by kernel_rfl) (by kernel_rfl) (by kernel_rfl) (fun _ _ _ h => h) (by rfl) ?_ hHeld ?_
      rotate_left
      · intro w hSw; go_simp <;> with_reducible rfl
      simp only [Act.put, List.setIfInBounds_toArray, List.set_cons_zero, List.set_cons_succ]
      refine takeY 19 (some 5) ?_ rfl rfl (by kernel_rfl) (by kernel_rfl) (by kernel_rfl) (fun _ _ _ h => h) (by rfl) ?_ hHeld ?_
      rotate_left
      · intro w hSw; go_simp <;> with_reducible rfl
      simp only [Act.put, List.setIfInBounds_toArray, List.set_cons_zero, List.set_cons_succ]
      refine wpAnyH_done (by kernel_rfl) ?_ _
      refine NoPanic.normal ?_
      obtain ⟨n, hn⟩ : ∃ n : Nat, 1007 - P.size = n := ⟨_, rfl⟩
      have he := sector_text k g P hk hp
      rw [hn, ← ByteArray.append_assoc] at he
      have HE := hide he
      clear he
      have hn7 : n + P.size = 1007 := by omega
      clear hn
      have v5 : (1020 : Int) - (13 + (P.size : Int)) = (n : Int) := by omega
      have hTz : (⟨#[67, 80]⟩ ++ strOfNums [(k : Int), (P.size : Int) / 256, (P.size : Int) % 256] ++ strOf (Pk.fixL g)).size = 13 := text_size k g P
      generalize ⟨#[67, 80]⟩ ++ strOfNums [(k : Int), (P.size : Int) / 256, (P.size : Int) % 256] ++ strOf (Pk.fixL g) = T at *
      have HB := hide (And.left hHeld)
      clear hHeld hcv hcv2 r1 r2 r5 z3
      have hmk := make_run n (by omega)
      have hmc := make_conv n
      have hz0 := zeros_size n
      have hz : (T ++ P ++ zeros n).size = 1020 := by rw [ByteArray.size_append, ByteArray.size_append, zeros_size]; omega
      have HS := hide (fun w' => refSum_any (T ++ P ++ zeros n) w' (by unfold maxLen; omega))
      have hc := Crc.sum_lt (bn (T ++ P ++ zeros n)) (bn_lt _)
      have hfc := four_conv
      have z4 : ∀ a b c d : Int, (strOfNums [a, b, c, d]).size = 4 := fun a b c d => by rw [strOfNums_size]; rfl
      generalize Crc.sum (bn (T ++ P ++ zeros n)) = c at *
      go_wp2_with (go_at_call 67; refine (unhide HS _).mono ?_; rintro e w4 ⟨rfl, hw⟩; have hw := hw.symm; subst hw)
      go_ret2
      refine ⟨?_, below_then (unhide HB) (below_then (mk_below n _) ((Below.refl _ _).alloc (Nat.le_refl _) _))⟩
      exact ret2_si (s := T ++ P ++ zeros n ++ strOfNums [_, _, _, _]) ((congrArg (T ++ P ++ zeros n ++ ·) (four_le c (by omega) (by omega) (by omega) (by omega))).trans (unhide HE))
    · go_simp
      refine (unhide HF _).mono ?_
      rintro e w2 ⟨rfl, hb2⟩
      have HX2 := Box.then hHeld hb2
      have hc2 := conv_kept hb2
      refine hK.out _ _ HX2 (fun hHeld => ?_)
      clear hK K
      try simp only [Act.put, List.setIfInBounds_toArray, List.set_cons_zero, List.set_cons_succ]
      refine wpAnyH_ready (rs := [9]) (by kernel_rfl) (by simp) ?_
      refine AllReadyH.cons rfl (fun K hK => ?_) AllReadyH.nil
      go_simp
      refine hK.out _ _ hHeld (fun hHeld => ?_)
      clear hK K
      try simp only [Act.put, List.setIfInBounds_toArray, List.set_cons_zero, List.set_cons_succ]
      refine takeY 10 (some 42) ?_ rfl rfl (by kernel_rfl) (by kernel_rfl) (by kernel_rfl) (fun _ _ _ h => h) (by rfl) ?_ hHeld ?_
      rotate_left
      · intro w hSw; go_simp <;> with_reducible rfl
      simp only [Act.put, List.setIfInBounds_toArray, List.set_cons_zero, List.set_cons_succ]
      refine takeY 15 (some 47) ?_ rfl rfl (by kernel_rfl) (by kernel_rfl) (by kernel_rfl) (fun _ _ _ h => h) (by rfl) ?_ hHeld ?_
      rotate_left
      · intro w hSw; go_simp <;> with_reducible rfl
      simp only [Act.put, List.setIfInBounds_toArray, List.set_cons_zero, List.set_cons_succ]
      refine takeY 18 (some 50) ?_ rfl rfl (by kernel_rfl) (by kernel_rfl) (by kernel_rfl) (fun _ _ _ h => h) (by rfl) ?_ hHeld ?_
      rotate_left
      · intro w hSw; go_simp <;> with_reducible rfl
      simp only [Act.put, List.setIfInBounds_toArray, List.set_cons_zero, List.set_cons_succ]
      refine takeY 19 (some 5) ?_ rfl rfl (by kernel_rfl) (by kernel_rfl) (by kernel_rfl) (fun _ _ _ h => h) (by rfl) ?_ hHeld ?_
      rotate_left
      · intro w hSw; go_simp <;> with_reducible rfl
      simp only [Act.put, List.setIfInBounds_toArray, List.set_cons_zero, List.set_cons_succ]
      refine wpAnyH_done (by kernel_rfl) ?_ _
      refine NoPanic.normal ?_
      obtain ⟨n, hn⟩ : ∃ n : Nat, 1007 - P.size = n := ⟨_, rfl⟩
      have he := sector_text k g P hk hp
      rw [hn, ← ByteArray.append_assoc] at he
      have HE := hide he
      clear he
      have hn7 : n + P.size = 1007 := by omega
      clear hn
      have v5 : (1020 : Int) - (13 + (P.size : Int)) = (n : Int) := by omega
      have hTz : (⟨#[67, 80]⟩ ++ strOfNums [(k : Int), (P.size : Int) / 256, (P.size : Int) % 256] ++ strOf (Pk.fixL g)).size = 13 := text_size k g P
      generalize ⟨#[67, 80]⟩ ++ strOfNums [(k : Int), (P.size : Int) / 256, (P.size : Int) % 256] ++ strOf (Pk.fixL g) = T at *
      have HB := hide (And.left hHeld)
      clear hHeld hcv hcv2 r1 r2 r5 z3
      have hmk := make_run n (by omega)
      have hmc := make_conv n
      have hz0 := zeros_size n
      have hz : (T ++ P ++ zeros n).size = 1020 := by rw [ByteArray.size_append, ByteArray.size_append, zeros_size]; omega
      have HS := hide (fun w' => refSum_any (T ++ P ++ zeros n) w' (by unfold maxLen; omega))
      have hc := Crc.sum_lt (bn (T ++ P ++ zeros n)) (bn_lt _)
      have hfc := four_conv
      have z4 : ∀ a b c d : Int, (strOfNums [a, b, c, d]).size = 4 := fun a b c d => by rw [strOfNums_size]; rfl
      generalize Crc.sum (bn (T ++ P ++ zeros n)) = c at *
      go_wp2_with (go_at_call 67; refine (unhide HS _).mono ?_; rintro e w4 ⟨rfl, hw⟩; have hw := hw.symm; subst hw)
      go_ret2
      refine ⟨?_, below_then (unhide HB) (below_then (mk_below n _) ((Below.refl _ _).alloc (Nat.le_refl _) _))⟩
      exact ret2_si (s := T ++ P ++ zeros n ++ strOfNums [_, _, _, _]) ((congrArg (T ++ P ++ zeros n ++ ·) (four_le c (by omega) (by omega) (by omega) (by omega))).trans (unhide HE))
  · go_simp
    refine (unhide HF _).mono ?_
    rintro e w2 ⟨rfl, hb2⟩
    have HX2 := Box.then hHeld hb2
    refine hK.out _ _ HX2 (fun hHeld => ?_)
    clear hK K
    try simp only [Act.put, List.setIfInBounds_toArray, List.set_cons_zero, List.set_cons_succ]
    refine wpAnyH_ready (rs := [8]) (by kernel_rfl) (by simp) ?_
    refine AllReadyH.cons rfl (fun K hK => ?_) AllReadyH.nil
    go_simp
    refine hK.out _ _ (Box.alloc hHeld _) (fun hHeld => ?_)
    clear hK K
    try simp only [Act.put, List.setIfInBounds_toArray, List.set_cons_zero, List.set_cons_succ]
    refine wpAnyH_ready (rs := [9]) (by kernel_rfl) (by simp) ?_
    refine AllReadyH.cons rfl (fun K hK => ?_) AllReadyH.nil
    go_simp
    refine hK.out _ _ hHeld (fun hHeld => ?_)
    clear hK K
    try simp only [Act.put, List.setIfInBounds_toArray, List.set_cons_zero, List.set_cons_succ]
    refine takeY 10 (some 42) ?_ rfl rfl (by kernel_rfl) (by kernel_rfl) (by kernel_rfl) (fun _ _ _ h => h) (by rfl) ?_ hHeld ?_
    rotate_left
    · intro w hSw; go_simp <;> with_reducible rfl
    simp only [Act.put, List.setIfInBounds_toArray, List.set_cons_zero, List.set_cons_succ]
    refine takeY 15 (some 47) ?_ rfl rfl (by kernel_rfl) (by kernel_rfl) (by kernel_rfl) (fun _ _ _ h => h) (by rfl) ?_ hHeld ?_
    rotate_left
    · intro w hSw; go_simp <;> with_reducible rfl
    simp only [Act.put, List.setIfInBounds_toArray, List.set_cons_zero, List.set_cons_succ]
    refine takeY 18 (some 50) ?_ rfl rfl (by kernel_rfl) (by kernel_rfl) (by kernel_rfl) (fun _ _ _ h => h) (by rfl) ?_ hHeld ?_
    rotate_left
    · intro w hSw; go_simp <;> with_reducible rfl
    simp only [Act.put, List.setIfInBounds_toArray, List.set_cons_zero, List.set_cons_succ]
    refine takeY 19 (some 5) ?_ rfl rfl (by kernel_rfl) (by kernel_rfl) (by kernel_rfl) (fun _ _ _ h => h) (by rfl) ?_ hHeld ?_
    rotate_left
    · intro w hSw; go_simp <;> with_reducible rfl
    simp only [Act.put, List.setIfInBounds_toArray, List.set_cons_zero, List.set_cons_succ]
    generalize w2.alloc (.cells #[.int .u8 (k : Int), .int .u8 ((P.size : Int) / 256), .int .u8 ((P.size : Int) % 256)] 5) = wX at *
    refine wpAnyH_done (by kernel_rfl) ?_ _
    refine NoPanic.normal ?_
    obtain ⟨n, hn⟩ : ∃ n : Nat, 1007 - P.size = n := ⟨_, rfl⟩
    have he := sector_text k g P hk hp
    rw [hn, ← ByteArray.append_assoc] at he
    have HE := hide he
    clear he
    have hn7 : n + P.size = 1007 := by omega
    clear hn
    have v5 : (1020 : Int) - (13 + (P.size : Int)) = (n : Int) := by omega
    have hTz : (⟨#[67, 80]⟩ ++ strOfNums [(k : Int), (P.size : Int) / 256, (P.size : Int) % 256] ++ strOf (Pk.fixL g)).size = 13 := text_size k g P
    generalize ⟨#[67, 80]⟩ ++ strOfNums [(k : Int), (P.size : Int) / 256, (P.size : Int) % 256] ++ strOf (Pk.fixL g) = T at *
    have HB := hide (And.left hHeld)
    clear hHeld hcv hcv2 r1 r2 r5 z3
    have hmk := make_run n (by omega)
    have hmc := make_conv n
    have hz0 := zeros_size n
    have hz : (T ++ P ++ zeros n).size = 1020 := by rw [ByteArray.size_append, ByteArray.size_append, zeros_size]; omega
    have HS := hide (fun w' => refSum_any (T ++ P ++ zeros n) w' (by unfold maxLen; omega))
    have hc := Crc.sum_lt (bn (T ++ P ++ zeros n)) (bn_lt _)
    have hfc := four_conv
    have z4 : ∀ a b c d : Int, (strOfNums [a, b, c, d]).size = 4 := fun a b c d => by rw [strOfNums_size]; rfl
    generalize Crc.sum (bn (T ++ P ++ zeros n)) = c at *
    go_wp2_with (go_at_call 67; refine (unhide HS _).mono ?_; rintro e w4 ⟨rfl, hw⟩; have hw := hw.symm; subst hw)
    go_ret2
    refine ⟨?_, below_then (unhide HB) (below_then (mk_below n _) ((Below.refl _ _).alloc (Nat.le_refl _) _))⟩
    exact ret2_si (s := T ++ P ++ zeros n ++ strOfNums [_, _, _, _]) ((congrArg (T ++ P ++ zeros n ++ ·) (four_le c (by omega) (by omega) (by omega) (by omega))).trans (unhide HE))

theorem rwrap_any (K G : Int) (P : ByteArray) (w : World) (hT : Tab w) :
    Calls Tryz.prog 34 #[.agg #[.int .i64 K, .int .i64 G, .string P]] w fun e w' => e = .returned (.tuple #[.string (wrapR K G P).1, .int .i64 ((wrapR K G P).2 : Nat)]) ∧ Below w.heap.size w w' := by
  by_cases h : K < 0 ∨ 255 < K ∨ G < 0 ∨ 1152921504606846976 < G
  · rw [wrapR_arg h]
    exact rwrap_arg K G P w h
  · by_cases hp : 1007 < P.size
    · rw [wrapR_big h hp]
      exact rwrap_big K G P w h hp
    · rw [wrapR_ok h hp]
      obtain ⟨k, rfl⟩ := Int.eq_ofNat_of_zero_le (show 0 ≤ K by omega)
      obtain ⟨g, rfl⟩ := Int.eq_ofNat_of_zero_le (show 0 ≤ G by omega)
      exact rwrap_ok k g P w hT (by omega) (by omega) (by omega)
end Go.Proofs.YtdelobaiicoogaaGreatDoor.L4
