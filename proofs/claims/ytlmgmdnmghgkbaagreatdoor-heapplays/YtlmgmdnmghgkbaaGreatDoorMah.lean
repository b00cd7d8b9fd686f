/- Texts that the proof needs, one behind the other. -/
import Derived.Test.YtlmgmdnmghgkbaaGreatDoorMab
import Derived.Laws.ResultCell
import Derived.Test.YtlmgmdnmghgkbaaGreatDoorMag
/- What block's Wrap does: the document's sector, or the error. -/
namespace Go.Proofs.YtlmgmdnmghgkbaaGreatDoor.L4
open Go.ChangeShapes Go.WideShapes Go.ChangeAt Go.RowKit

set_option maxHeartbeats 400000 in
theorem wrap_arg (K G : Int) (P : ByteArray) (w : World) (h : K < 0 ∨ 255 < K ∨ G < 0 ∨ 1152921504606846976 < G) :
    Calls Tryz.prog 128 #[.agg #[.int .i64 K, .int .i64 G, .string P]] w fun e w' => e = .returned (.tuple #[.string ⟨#[]⟩, .int .i64 1]) ∧ Below w.heap.size w w' := by
  by_cases h1 : K < 0
  · clear h
    go_enter Tryz.func128, Tryz.ntmps128
    go_wp2
    go_ret2
    exact ⟨rfl, (Below.refl _ _).alloc (Nat.le_refl _) _⟩
  · by_cases h2 : 255 < K
    · clear h
      go_enter Tryz.func128, Tryz.ntmps128
      go_wp2
      go_ret2
      exact ⟨rfl, (Below.refl _ _).alloc (Nat.le_refl _) _⟩
    · by_cases h3 : G < 0
      · clear h
        go_enter Tryz.func128, Tryz.ntmps128
        go_wp2
        go_ret2
        exact ⟨rfl, (Below.refl _ _).alloc (Nat.le_refl _) _⟩
      · have h4 : 1152921504606846976 < G := by omega
        clear h
        go_enter Tryz.func128, Tryz.ntmps128
        go_wp2
        go_ret2
        exact ⟨rfl, (Below.refl _ _).alloc (Nat.le_refl _) _⟩

set_option maxHeartbeats 400000 in
theorem wrap_big (K G : Int) (P : ByteArray) (w : World) (h : ¬ (K < 0 ∨ 255 < K ∨ G < 0 ∨ 1152921504606846976 < G)) (hp : 1007 < P.size) :
    Calls Tryz.prog 128 #[.agg #[.int .i64 K, .int .i64 G, .string P]] w fun e w' => e = .returned (.tuple #[.string ⟨#[]⟩, .int .i64 61]) ∧ Below w.heap.size w w' := by
  have h1 : ¬ K < 0 := by omega
  have h2 : ¬ 255 < K := by omega
  have h3 : ¬ G < 0 := by omega
  have h4 : ¬ 1152921504606846976 < G := by omega
  clear h
  go_enter Tryz.func128, Tryz.ntmps128
  go_wp2
  go_ret2
  exact ⟨rfl, (Below.refl _ _).alloc (Nat.le_refl _) _⟩
set_option maxRecDepth 10000 in
set_option maxHeartbeats 4000000 in
theorem wrap_ok (k g : Nat) (P : ByteArray) (w : World) (hT : Tab w) (hk : k ≤ 255) (hg : g ≤ 1152921504606846976) (hp : P.size ≤ 1007) :
    Calls Tryz.prog 128 #[.agg #[.int .i64 (k : Int), .int .i64 (g : Int), .string P]] w fun e w' => e = .returned (.tuple #[.string (strOf (Blk.sector k g (bn P))), .int .i64 0]) ∧ Below w.heap.size w w' := by
  have HT := hide hT
  clear hT
  have h4 : ¬ (1152921504606846976 : Int) < (g : Int) := by omega
  have v1 : IntKind.u64.wrap (g : Int) = (g : Int) := by rw [IntKind.wrap_u64]; omega
  have v2 : IntKind.u8.wrap (k : Int) = (k : Int) := by rw [IntKind.wrap_u8]; omega
  have v3 : IntKind.u8.wrap ((P.size : Int) / 256) = (P.size : Int) / 256 := by rw [IntKind.wrap_u8]; omega
  have v4 : IntKind.u8.wrap (P.size : Int) = (P.size : Int) % 256 := by rw [IntKind.wrap_u8]
  have hcv := three_conv
  have hcv2 := three_conv_drew
  have hF := fun W => fixed_any (g : Int) W (by omega)
  rw [Int.toNat_natCast] at hF
  have HF := hide hF
  clear hF
  go_enter Tryz.func128, Tryz.ntmps128
  go_wp2_with fail
  have HX := Box.new w (.int .i64 (k : Int)) (.int .i64 (g : Int)) (.string P)
  generalize w.alloc (.cells #[.int .i64 (k : Int), .int .i64 (g : Int), .string P] 161) = w1 at *
  have r1 := add_run ⟨#[67, 80]⟩
  have r2 := add_run (⟨#[67, 80]⟩ ++ strOfNums [(k : Int), (P.size : Int) / 256, (P.size : Int) % 256]) (strOf (Pk.fixL g)) (by rw [ByteArray.size_append, strOfNums_size, strOf_size]; show 2 + 3 + 8 ≤ 1000000; decide)
  have z3 : ∀ a b c : Int, (strOfNums [a, b, c]).size = 3 := fun a b c => by rw [strOfNums_size]; rfl
  refine wp_region_noPanic ?_
  refine wp_region_held_drew (S := fun w' => Below w.heap.size w w' ∧ w'.cell? ⟨w.heap.size, 0, none⟩ = some (.int .i64 (k : Int)) ∧ w'.cell? ⟨w.heap.size, 1, none⟩ = some (.int .i64 (g : Int)) ∧ w'.cell? ⟨w.heap.size, 2, none⟩ = some (.string P)) (by kernel_rfl) HX.drew (fun hHeld => ?_)
  refine takeY 0 (some 32) ?_ rfl rfl (by kernel_rfl) (by kernel_rfl) (by kernel_rfl) (fun _ _ _ h => h) (by rfl) ?_ hHeld ?_
  rotate_left
  · intro w hSw; go_simp <;> with_reducible rfl
  simp only [Act.put, List.setIfInBounds_toArray, List.set_cons_zero, List.set_cons_succ]
  refine takeY 1 (some 33) ?_ rfl rfl (by kernel_rfl) (by kernel_rfl) (by kernel_rfl) (fun _ _ _ h => h) (by rfl) ?_ hHeld ?_
  rotate_left
  · intro w hSw; go_simp <;> with_reducible rfl
  simp only [Act.put, List.setIfInBounds_toArray, List.set_cons_zero, List.set_cons_succ]
  refine takeY 2 (some 34) ?_ rfl rfl (by kernel_rfl) (by kernel_rfl) (by kernel_rfl) (fun _ _ _ h => h) (by rfl) ?_ hHeld ?_
  rotate_left
  · intro w hSw; go_simp <;> with_reducible rfl
  simp only [Act.put, List.setIfInBounds_toArray, List.set_cons_zero, List.set_cons_succ]
  refine takeY 3 (some 35) ?_ rfl rfl (by kernel_rfl) (by kernel_rfl) (by kernel_rfl) (fun _ _ _ h => h) (by rfl) ?_ hHeld ?_
  rotate_left
  · intro w hSw; go_simp <;> with_reducible rfl
  simp only [Act.put, List.setIfInBounds_toArray, List.set_cons_zero, List.set_cons_succ]
  refine takeY 4 (some 36) ?_ rfl rfl (by kernel_rfl) (by kernel_rfl) (by kernel_rfl) (fun _ _ _ h => h) (by rfl) ?_ hHeld ?_
  rotate_left
  · intro w hSw; go_simp <;> with_reducible rfl
  simp only [Act.put, List.setIfInBounds_toArray, List.set_cons_zero, List.set_cons_succ]
  refine takeY 5 (some 37) ?_ rfl rfl (by kernel_rfl) (by kernel_rfl) (by kernel_rfl) (fun _ _ _ h => h) (by rfl) ?_ hHeld ?_
  rotate_left
  · intro w hSw; go_simp <;> with_reducible rfl
  simp only [Act.put, List.setIfInBounds_toArray, List.set_cons_zero, List.set_cons_succ]
  refine takeY 6 (some 38) ?_ rfl rfl (by kernel_rfl) (by kernel_rfl) (by kernel_rfl) (fun _ _ _ h => h) (by rfl) ?_ hHeld ?_
  rotate_left
  · intro w hSw; go_simp <;> with_reducible rfl
  simp only [Act.put, List.setIfInBounds_toArray, List.set_cons_zero, List.set_cons_succ]
  refine takeY 7 (some 39) ?_ rfl rfl (by kernel_rfl) (by kernel_rfl) (by kernel_rfl) (fun _ _ _ h => h) (by rfl) ?_ hHeld ?_
  rotate_left
  · intro w hSw; go_simp <;> with_reducible rfl
  simp only [Act.put, List.setIfInBounds_toArray, List.set_cons_zero, List.set_cons_succ]
  refine takeY 11 (some 43) ?_ rfl rfl (by kernel_rfl) (by kernel_rfl) (by kernel_rfl) (fun _ _ _ h => h) (by rfl) ?_ hHeld ?_
  rotate_left
  · intro w hSw; go_simp <;> with_reducible rfl
  simp only [Act.put, List.setIfInBounds_toArray, List.set_cons_zero, List.set_cons_succ]
  refine takeY 12 (some 44) ?_ rfl rfl (by kernel_rfl) (by kernel_rfl) (by kernel_rfl) (fun _ _ _ h => h) (by rfl) ?_ hHeld ?_
  rotate_left
  · intro w hSw; go_simp <;> with_reducible rfl
  simp only [Act.put, List.setIfInBounds_toArray, List.set_cons_zero, List.set_cons_succ]
  refine takeY 13 (some 45) ?_ rfl rfl (by kernel_rfl) (by kernel_rfl) (by kernel_rfl) (fun _ _ _ h => h) (by rfl) ?_ hHeld ?_
  rotate_left
  · intro w hSw; go_simp <;> with_reducible rfl
  simp only [Act.put, List.setIfInBounds_toArray, List.set_cons_zero, List.set_cons_succ]
  refine wpAnyH_ready (rs := [8, 14]) (by kernel_rfl) (by simp) ?_
  refine AllReadyH.cons rfl (fun K hK => ?_) (AllReadyH.cons rfl (fun K hK => ?_) AllReadyH.nil)
  · go_simp
    refine hK.out _ _ (Box.alloc hHeld _) (fun hHeld => ?_)
    clear hK K
    try simp only [Act.put, List.setIfInBounds_toArray, List.set_cons_zero, List.set_cons_succ]
    refine wpAnyH_ready (rs := [9, 14]) (by kernel_rfl) (by simp) ?_
    refine AllReadyH.cons rfl (fun K hK => ?_) (AllReadyH.cons rfl (fun K hK => ?_) AllReadyH.nil)
    · go_simp
      refine hK.out _ _ hHeld (fun hHeld => ?_)
      clear hK K
      try simp only [Act.put, List.setIfInBounds_toArray, List.set_cons_zero, List.set_cons_succ]
      refine takeY 10 (some 42) ?_ rfl rfl (by kernel_rfl) (by kernel_rfl) (by kernel_rfl) (fun _ _ _ h => h) (by rfl) ?_ hHeld ?_
      rotate_left
      · intro w hSw; go_simp <;> with_reducible rfl
      simp only [Act.put, List.setIfInBounds_toArray, List.set_cons_zero, List.set_cons_succ]
      refine wpAnyH_ready (rs := [14]) (by kernel_rfl) (by simp) ?_
      refine AllReadyH.cons rfl (fun K hK => ?_) AllReadyH.nil
      go_simp
      refine (unhide HF _).mono ?_
      rintro e w2 ⟨rfl, hb2⟩
      have HX2 := Box.then hHeld hb2
      refine hK.out _ _ HX2 (fun hHeld => ?_)
      clear hK K
      try simp only [Act.put, List.setIfInBounds_toArray, List.set_cons_zero, List.set_cons_succ]
      refine takeY 15 (some 47) ?_ rfl rfl (by kernel_rfl) (by kernel_rfl) (by kernel_rfl) (fun _ _ _ h => h) (by rfl) ?_ hHeld ?_
      rotate_left
      · intro w hSw; go_simp <;> with_reducible rfl
      simp only [Act.put, List.setIfInBounds_toArray, List.set_cons_zero, List.set_cons_succ]
      refine takeY 16 (some 5) ?_ rfl rfl (by kernel_rfl) (by kernel_rfl) (by kernel_rfl) (fun _ _ _ h => h) (by rfl) ?_ hHeld ?_
      rotate_left
      · intro w hSw; go_simp <;> with_reducible rfl
      simp only [Act.put, List.setIfInBounds_toArray, List.set_cons_zero, List.set_cons_succ]
      refine wpAnyH_done (by kernel_rfl) ?_ _
      refine NoPanic.normal ?_
      obtain ⟨n, hn⟩ : ∃ n : Nat, 1007 - P.size = n := ⟨_, rfl⟩
      have he := sector_text k g P hk hp
      rw [hn] at he
      have HE := hide he
      clear he
      have hn7 : n + P.size = 1007 := by omega
      clear hn
      have v5 : (1007 : Int) - (P.size : Int) = (n : Int) := by omega
      have v6 : IntKind.i64.wrap (1007 - (P.size : Int)) = (n : Int) := by rw [v5, IntKind.wrap_i64]; omega
      have v7 : IntKind.i64.wrap (n : Int) = (n : Int) := by rw [IntKind.wrap_i64]; omega
      have hTz : (⟨#[67, 80]⟩ ++ strOfNums [(k : Int), (P.size : Int) / 256, (P.size : Int) % 256] ++ strOf (Pk.fixL g)).size = 13 := text_size k g P
      generalize ⟨#[67, 80]⟩ ++ strOfNums [(k : Int), (P.size : Int) / 256, (P.size : Int) % 256] ++ strOf (Pk.fixL g) = T at *
      have HH := hide (Box.drew hHeld)
      clear hHeld hcv hcv2 r1 r2 z3
      have r3 := add_run P (zeros n) (by rw [zeros_size]; omega)
      have r4 := add_run T (P ++ zeros n) (by rw [ByteArray.size_append, zeros_size]; omega)
      go_wp2_with fail
      go_region_held3 (fun w' => Below w.heap.size w w' ∧ w'.cell? ⟨w.heap.size, 2, none⟩ = some (.string P))
        (first | assumption | exact ⟨(unhide HH).1, (unhide HH).2.2.2⟩ | exact ⟨(unhide H3).1, (unhide H3).2.2.2⟩)
        (first | (go_at_call 170; refine (zeros_any n _ (by omega)).mono ?_; rintro e w3 ⟨rfl, hb3⟩; have H3 := hide (Box.then (unhide HH) hb3)))
      have hz : (T ++ (P ++ zeros n)).size = 1020 := by rw [ByteArray.size_append, ByteArray.size_append, zeros_size]; omega
      have HT3 := hide ((unhide HT).below (unhide H3).1)
      have HB3 := hide (unhide H3).1
      clear HH H3 HX2 r3 r4 hb3
      generalize T ++ (P ++ zeros n) = U at *
      have HS := hide (fun w' (h : Tab w') => sumOf_any U w' h (by unfold maxLen; omega))
      have hq : ∀ c, (strOf (Blk.le4 c)).size = 4 := fun c => strOf_size _
      go_wp2_with (go_at_call 171; refine (unhide HS _ (unhide HT3)).mono ?_; rintro e w4 ⟨rfl, hb4⟩)
      go_ret2
      refine ⟨?_, below_then (unhide HB3) hb4⟩
      exact ret2_si (s := U ++ strOf (Blk.le4 (Crc.sum (bn U)))) (unhide HE)
    · go_simp
      refine (unhide HF _).mono ?_
      rintro e w2 ⟨rfl, hb2⟩
      have HX2 := Box.then hHeld hb2
      have hc2 := conv_kept hb2
      refine hK.out _ _ HX2 (fun hHeld => ?_)
      clear hK K
      try simp only [Act.put, List.setIfInBounds_toArray, List.set_cons_zero, List.set_cons_succ]
      refine wpAnyH_ready (rs := [9]) (by kernel_rfl) (by simp) ?_
      refine AllReadyH.cons rfl (fun K hK => ?_) AllReadyH.nil
      go_simp
      refine hK.out _ _ hHeld (fun hHeld => ?_)
      clear hK K
      try simp only [Act.put, List.setIfInBounds_toArray, List.set_cons_zero, List.set_cons_succ]
      refine takeY 10 (some 42) ?_ rfl rfl (by kernel_rfl) (by kernel_rfl) (by kernel_rfl) (fun _ _ _ h => h) (by rfl) ?_ hHeld ?_
      rotate_left
      · intro w hSw; go_simp <;> with_reducible rfl
      simp only [Act.put, List.setIfInBounds_toArray, List.set_cons_zero, List.set_cons_succ]
      refine takeY 15 (some 47) ?_ rfl rfl (by kernel_rfl) (by kernel_rfl) (by kernel_rfl) (fun _ _ _ h => h) (by rfl) ?_ hHeld ?_
      rotate_left
      · intro w hSw; go_simp <;> with_reducible rfl
      simp only [Act.put, List.setIfInBounds_toArray, List.set_cons_zero, List.set_cons_succ]
      refine takeY 16 (some 5) ?_ rfl rfl (by kernel_rfl) (by kernel_rfl) (by kernel_rfl) (fun _ _ _ h => h) (by rfl) ?_ hHeld ?_
      rotate_left
      · intro w hSw; go_simp <;> with_reducible rfl
      simp only [Act.put, List.setIfInBounds_toArray, List.set_cons_zero, List.set_cons_succ]
      refine wpAnyH_done (by kernel_rfl) ?_ _
      refine NoPanic.normal ?_
      obtain ⟨n, hn⟩ : ∃ n : Nat, 1007 - P.size = n := ⟨_, rfl⟩
      have he := sector_text k g P hk hp
      rw [hn] at he
      have HE := hide he
      clear he
      have hn7 : n + P.size = 1007 := by omega
      clear hn
      have v5 : (1007 : Int) - (P.size : Int) = (n : Int) := by omega
      have v6 : IntKind.i64.wrap (1007 - (P.size : Int)) = (n : Int) := by rw [v5, IntKind.wrap_i64]; omega
      have v7 : IntKind.i64.wrap (n : Int) = (n : Int) := by rw [IntKind.wrap_i64]; omega
      have hTz : (⟨#[67, 80]⟩ ++ strOfNums [(k : Int), (P.size : Int) / 256, (P.size : Int) % 256] ++ strOf (Pk.fixL g)).size = 13 := text_size k g P
      generalize ⟨#[67, 80]⟩ ++ strOfNums [(k : Int), (P.size : Int) / 256, (P.size : Int) % 256] ++ strOf (Pk.fixL g) = T at *
      have HH := hide (Box.drew hHeld)
      clear hHeld hcv hcv2 r1 r2 z3
      have r3 := add_run P (zeros n) (by rw [zeros_size]; omega)
      have r4 := add_run T (P ++ zeros n) (by rw [ByteArray.size_append, zeros_size]; omega)
      go_wp2_with fail
      go_region_held3 (fun w' => Below w.heap.size w w' ∧ w'.cell? ⟨w.heap.size, 2, none⟩ = some (.string P))
        (first | assumption | exact ⟨(unhide HH).1, (unhide HH).2.2.2⟩ | exact ⟨(unhide H3).1, (unhide H3).2.2.2⟩)
        (first | (go_at_call 170; refine (zeros_any n _ (by omega)).mono ?_; rintro e w3 ⟨rfl, hb3⟩; have H3 := hide (Box.then (unhide HH) hb3)))
      have hz : (T ++ (P ++ zeros n)).size = 1020 := by rw [ByteArray.size_append, ByteArray.size_append, zeros_size]; omega
      have HT3 := hide ((unhide HT).below (unhide H3).1)
      have HB3 := hide (unhide H3).1
      clear HH H3 HX2 r3 r4 hb3
      generalize T ++ (P ++ zeros n) = U at *
      have HS := hide (fun w' (h : Tab w') => sumOf_any U w' h (by unfold maxLen; omega))
      have hq : ∀ c, (strOf (Blk.le4 c)).size = 4 := fun c => strOf_size _
      go_wp2_with (go_at_call 171; refine (unhide HS _ (unhide HT3)).mono ?_; rintro e w4 ⟨rfl, hb4⟩)
      go_ret2
      refine ⟨?_, below_then (unhide HB3) hb4⟩
      exact ret2_si (s := U ++ strOf (Blk.le4 (Crc.sum (bn U)))) (unhide HE)
  · go_simp
    refine (unhide HF _).mono ?_
    rintro e w2 ⟨rfl, hb2⟩
    have HX2 := Box.then hHeld hb2
    refine hK.out _ _ HX2 (fun hHeld => ?_)
    clear hK K
    try simp only [Act.put, List.setIfInBounds_toArray, List.set_cons_zero, List.set_cons_succ]
    refine wpAnyH_ready (rs := [8]) (by kernel_rfl) (by simp) ?_
    refine AllReadyH.cons rfl (fun K hK => ?_) AllReadyH.nil
    go_simp
    refine hK.out _ _ (Box.alloc hHeld _) (fun hHeld => ?_)
    clear hK K
    try simp only [Act.put, List.setIfInBounds_toArray, List.set_cons_zero, List.set_cons_succ]
    refine wpAnyH_ready (rs := [9]) (by kernel_rfl) (by simp) ?_
    refine AllReadyH.cons rfl (fun K hK => ?_) AllReadyH.nil
    go_simp
    refine hK.out _ _ hHeld (fun hHeld => ?_)
    clear hK K
    try simp only [Act.put, List.setIfInBounds_toArray, List.set_cons_zero, List.set_cons_succ]
    refine takeY 10 (some 42) ?_ rfl rfl (by kernel_rfl) (by kernel_rfl) (by kernel_rfl) (fun _ _ _ h => h) (by rfl) ?_ hHeld ?_
    rotate_left
    · intro w hSw; go_simp <;> with_reducible rfl
    simp only [Act.put, List.setIfInBounds_toArray, List.set_cons_zero, List.set_cons_succ]
    refine takeY 15 (some 47) ?_ rfl rfl (by kernel_rfl) (by kernel_rfl) (by kernel_rfl) (fun _ _ _ h => h) (by rfl) ?_ hHeld ?_
    rotate_left
    · intro w hSw; go_simp <;> with_reducible rfl
    simp only [Act.put, List.setIfInBounds_toArray, List.set_cons_zero, List.set_cons_succ]
    refine takeY 16 (some 5) ?_ rfl rfl (by kernel_rfl) (by kernel_rfl) (by kernel_rfl) (fun _ _ _ h => h) (by rfl) ?_ hHeld ?_
    rotate_left
    · intro w hSw; go_simp <;> with_reducible rfl
    simp only [Act.put, List.setIfInBounds_toArray, List.set_cons_zero, List.set_cons_succ]
    refine wpAnyH_done (by kernel_rfl) ?_ _
    refine NoPanic.normal ?_
    obtain ⟨n, hn⟩ : ∃ n : Nat, 1007 - P.size = n := ⟨_, rfl⟩
    have he := sector_text k g P hk hp
    rw [hn] at he
    have HE := hide he
    clear he
    have hn7 : n + P.size = 1007 := by omega
    clear hn
    have v5 : (1007 : Int) - (P.size : Int) = (n : Int) := by omega
    have v6 : IntKind.i64.wrap (1007 - (P.size : Int)) = (n : Int) := by rw [v5, IntKind.wrap_i64]; omega
    have v7 : IntKind.i64.wrap (n : Int) = (n : Int) := by rw [IntKind.wrap_i64]; omega
    have hTz : (⟨#[67, 80]⟩ ++ strOfNums [(k : Int), (P.size : Int) / 256, (P.size : Int) % 256] ++ strOf (Pk.fixL g)).size = 13 := text_size k g P
    generalize ⟨#[67, 80]⟩ ++ strOfNums [(k : Int), (P.size : Int) / 256, (P.size : Int) % 256] ++ strOf (Pk.fixL g) = T at *
    have HH := hide (Box.drew hHeld)
    clear hHeld hcv hcv2 r1 r2 z3
    have r3 := add_run P (zeros n) (by rw [zeros_size]; omega)
    have r4 := add_run T (P ++ zeros n) (by rw [ByteArray.size_append, zeros_size]; omega)
    go_wp2_with fail
    go_region_held3 (fun w' => Below w.heap.size w w' ∧ w'.cell? ⟨w.heap.size, 2, none⟩ = some (.string P))
      (first | assumption | exact ⟨(unhide HH).1, (unhide HH).2.2.2⟩ | exact ⟨(unhide H3).1, (unhide H3).2.2.2⟩)
      (first | (go_at_call 170; refine (zeros_any n _ (by omega)).mono ?_; rintro e w3 ⟨rfl, hb3⟩; have H3 := hide (Box.then (unhide HH) hb3)))
    have hz : (T ++ (P ++ zeros n)).size = 1020 := by rw [ByteArray.size_append, ByteArray.size_append, zeros_size]; omega
    have HT3 := hide ((unhide HT).below (unhide H3).1)
    have HB3 := hide (unhide H3).1
    clear HH H3 HX2 r3 r4 hb3
    generalize T ++ (P ++ zeros n) = U at *
    have HS := hide (fun w' (h : Tab w') => sumOf_any U w' h (by unfold maxLen; omega))
    have hq : ∀ c, (strOf (Blk.le4 c)).size = 4 := fun c => strOf_size _
    go_wp2_with (go_at_call 171; refine (unhide HS _ (unhide HT3)).mono ?_; rintro e w4 ⟨rfl, hb4⟩)
    go_ret2
    refine ⟨?_, below_then (unhide HB3) hb4⟩
    exact ret2_si (s := U ++ strOf (Blk.le4 (Crc.sum (bn U)))) (unhide HE)

theorem wrap_any (K G : Int) (P : ByteArray) (w : World) (hT : Tab w) :
    Calls Tryz.prog 128 #[.agg #[.int .i64 K, .int .i64 G, .string P]] w fun e w' => e = .returned (.tuple #[.string (wrapR K G P).1, .int .i64 ((wrapR K G P).2 : Nat)]) ∧ Below w.heap.size w w' := by
  by_cases h : K < 0 ∨ 255 < K ∨ G < 0 ∨ 1152921504606846976 < G
  · rw [wrapR_arg h]
    exact wrap_arg K G P w h
  · by_cases hp : 1007 < P.size
    · rw [wrapR_big h hp]
      exact wrap_big K G P w h hp
    · rw [wrapR_ok h hp]
      obtain ⟨k, rfl⟩ := Int.eq_ofNat_of_zero_le (show 0 ≤ K by omega)
      obtain ⟨g, rfl⟩ := Int.eq_ofNat_of_zero_le (show 0 ≤ G by omega)
      exact wrap_ok k g P w hT (by omega) (by omega) (by omega)
end Go.Proofs.YtlmgmdnmghgkbaaGreatDoor.L4

/- What blockOf does: the block that the bytes ahead of the sum tell, or the error. -/
namespace Go.Proofs.YtlmgmdnmghgkbaaGreatDoor.L4
open Go.ChangeShapes Go.WideShapes Go.ChangeAt Go.RowKit

theorem below_set {W w : World} {g j : Nat} {u : Value} (h : Below W.heap.size W w) (hg : W.heap.size ≤ g) : Below W.heap.size W (w.setCell ⟨g, j, none⟩ u) :=
  h.grown (grown_set w g j u) h.size (fun k hk => by cases hk; exact hg)

set_option maxRecDepth 10000 in
set_option maxHeartbeats 1000000 in
theorem blockOf_prefix (U : ByteArray) (w : World) (x2 n G : Nat) (hU : U.size = 1020) (e2 : (bn U).getD 2 0 = x2) (en : Blk.lenOf (bn U) = n) (eG : Pk.fixN (((bn U).drop 5).take 8) = G) (hp : Lib.hasPrefix U.data.toList [67, 80] = false) :
    Calls Tryz.prog 183 #[.string U] w fun e w' => e = .returned (.tuple #[.agg #[.int .i64 0, .int .i64 0, .string ⟨#[]⟩], .int .i64 21]) ∧ Below w.heap.size w w' := by
  have l2 := getD_lt (bn_lt U) 2
  have l3 := getD_lt (bn_lt U) 3
  have l4 := getD_lt (bn_lt U) 4
  obtain ⟨x3, e3⟩ : ∃ x, (bn U).getD 3 0 = x := ⟨_, rfl⟩
  obtain ⟨x4, e4⟩ : ∃ x, (bn U).getD 4 0 = x := ⟨_, rfl⟩
  rw [e2] at l2
  rw [e3] at l3
  rw [e4] at l4
  have E2 := hide e2
  have E3 := hide e3
  have E4 := hide e4
  have EG := hide eG
  have HP := hide (fun w' => prefix_any U ⟨#[67, 80]⟩ w')
  have hp' : Lib.hasPrefix U.data.toList (⟨#[67, 80]⟩ : ByteArray).data.toList = false := hp
  rw [hp'] at HP
  have ho := or_i64 x3 x4 l3 l4
  have hnn : x3 * 256 + x4 = n := by rw [← en, Blk.lenOf, e3, e4]
  rw [hnn] at ho
  have hv1 : (x3 : Int) * 256 + (x4 : Int) = (n : Int) := by omega
  clear e2 e3 e4 eG hp hp' en hnn
  go_enter Tryz.func183, Tryz.ntmps183
  go_wp2_with (first
    | (go_at_call 185; refine (read_step' w U _ (by rw [hU])).mono ?_; rintro e w1 ⟨r, rfl, h2⟩)
    | (go_at_call 213; refine (byte_step (k := 2) (j := 3) h2 (by omega) rfl (unhide E2) (by omega)).mono ?_; rintro e w2 ⟨rfl, h3⟩; clear h2)
    | (go_at_call 213; refine (byte_step (k := 3) (j := 4) h3 (by omega) rfl (unhide E3) (by omega)).mono ?_; rintro e w3 ⟨rfl, h4⟩; clear h3)
    | (go_at_call 213; refine (byte_step (k := 4) (j := 5) h4 (by omega) rfl (unhide E4) (by omega)).mono ?_; rintro e w4 ⟨rfl, h5⟩; clear h4)
    | (go_at_call 214; refine (fixed_step' (k := 5) h5 (by omega) (unhide EG) (by omega)).mono ?_; rintro e w5 ⟨rfl, h6⟩; clear h5; obtain ⟨c0, c1, c2, cf⟩ := h6.cells)
    | (go_at_call 205; refine (unhide HP _).mono ?_; rintro e w6 ⟨rfl, hw⟩; have hw := hw.symm; subst hw))
  refine bodyPost_ret (v := .tuple #[.agg #[.int .i64 0, .int .i64 0, .string ⟨#[]⟩], .int .i64 21]) ?_ rfl ⟨rfl, ?_⟩
  · rw [results_cell_tmp rfl]
    go_simp
  · exact below_set (below_set (below_set h6.1 (Nat.le_refl _)) (Nat.le_refl _)) (Nat.le_refl _)

set_option maxRecDepth 10000 in
set_option maxHeartbeats 1000000 in
theorem blockOf_long (U : ByteArray) (w : World) (x2 n G : Nat) (hU : U.size = 1020) (e2 : (bn U).getD 2 0 = x2) (en : Blk.lenOf (bn U) = n) (eG : Pk.fixN (((bn U).drop 5).take 8) = G) (hp : Lib.hasPrefix U.data.toList [67, 80] = true) (hn : 1007 < n) :
    Calls Tryz.prog 183 #[.string U] w fun e w' => e = .returned (.tuple #[.agg #[.int .i64 0, .int .i64 0, .string ⟨#[]⟩], .int .i64 21]) ∧ Below w.heap.size w w' := by
  have l2 := getD_lt (bn_lt U) 2
  have l3 := getD_lt (bn_lt U) 3
  have l4 := getD_lt (bn_lt U) 4
  obtain ⟨x3, e3⟩ : ∃ x, (bn U).getD 3 0 = x := ⟨_, rfl⟩
  obtain ⟨x4, e4⟩ : ∃ x, (bn U).getD 4 0 = x := ⟨_, rfl⟩
  rw [e2] at l2
  rw [e3] at l3
  rw [e4] at l4
  have E2 := hide e2
  have E3 := hide e3
  have E4 := hide e4
  have EG := hide eG
  have HP := hide (fun w' => prefix_any U ⟨#[67, 80]⟩ w')
  have hp' : Lib.hasPrefix U.data.toList (⟨#[67, 80]⟩ : ByteArray).data.toList = true := hp
  rw [hp'] at HP
  have ho := or_i64 x3 x4 l3 l4
  have hnn : x3 * 256 + x4 = n := by rw [← en, Blk.lenOf, e3, e4]
  rw [hnn] at ho
  have hv1 : (x3 : Int) * 256 + (x4 : Int) = (n : Int) := by omega
  clear e2 e3 e4 eG hp hp' en hnn
  have i1 : (1007 : Int) < (n : Int) := by omega
  go_enter Tryz.func183, Tryz.ntmps183
  go_wp2_with (first
    | (go_at_call 185; refine (read_step' w U _ (by rw [hU])).mono ?_; rintro e w1 ⟨r, rfl, h2⟩)
    | (go_at_call 213; refine (byte_step (k := 2) (j := 3) h2 (by omega) rfl (unhide E2) (by omega)).mono ?_; rintro e w2 ⟨rfl, h3⟩; clear h2)
    | (go_at_call 213; refine (byte_step (k := 3) (j := 4) h3 (by omega) rfl (unhide E3) (by omega)).mono ?_; rintro e w3 ⟨rfl, h4⟩; clear h3)
    | (go_at_call 213; refine (byte_step (k := 4) (j := 5) h4 (by omega) rfl (unhide E4) (by omega)).mono ?_; rintro e w4 ⟨rfl, h5⟩; clear h4)
    | (go_at_call 214; refine (fixed_step' (k := 5) h5 (by omega) (unhide EG) (by omega)).mono ?_; rintro e w5 ⟨rfl, h6⟩; clear h5; obtain ⟨c0, c1, c2, cf⟩ := h6.cells)
    | (go_at_call 205; refine (unhide HP _).mono ?_; rintro e w6 ⟨rfl, hw⟩; have hw := hw.symm; subst hw))
  refine bodyPost_ret (v := .tuple #[.agg #[.int .i64 0, .int .i64 0, .string ⟨#[]⟩], .int .i64 21]) ?_ rfl ⟨rfl, ?_⟩
  · rw [results_cell_tmp rfl]
    go_simp
  · exact below_set (below_set (below_set h6.1 (Nat.le_refl _)) (Nat.le_refl _)) (Nat.le_refl _)

set_option maxRecDepth 10000 in
set_option maxHeartbeats 1000000 in
theorem blockOf_gen (U : ByteArray) (w : World) (x2 n G : Nat) (hU : U.size = 1020) (e2 : (bn U).getD 2 0 = x2) (en : Blk.lenOf (bn U) = n) (eG : Pk.fixN (((bn U).drop 5).take 8) = G) (hp : Lib.hasPrefix U.data.toList [67, 80] = true) (hn : n ≤ 1007) (hg : 1152921504606846976 < G) :
    Calls Tryz.prog 183 #[.string U] w fun e w' => e = .returned (.tuple #[.agg #[.int .i64 0, .int .i64 0, .string ⟨#[]⟩], .int .i64 21]) ∧ Below w.heap.size w w' := by
  have l2 := getD_lt (bn_lt U) 2
  have l3 := getD_lt (bn_lt U) 3
  have l4 := getD_lt (bn_lt U) 4
  obtain ⟨x3, e3⟩ : ∃ x, (bn U).getD 3 0 = x := ⟨_, rfl⟩
  obtain ⟨x4, e4⟩ : ∃ x, (bn U).getD 4 0 = x := ⟨_, rfl⟩
  rw [e2] at l2
  rw [e3] at l3
  rw [e4] at l4
  have E2 := hide e2
  have E3 := hide e3
  have E4 := hide e4
  have EG := hide eG
  have HP := hide (fun w' => prefix_any U ⟨#[67, 80]⟩ w')
  have hp' : Lib.hasPrefix U.data.toList (⟨#[67, 80]⟩ : ByteArray).data.toList = true := hp
  rw [hp'] at HP
  have ho := or_i64 x3 x4 l3 l4
  have hnn : x3 * 256 + x4 = n := by rw [← en, Blk.lenOf, e3, e4]
  rw [hnn] at ho
  have hv1 : (x3 : Int) * 256 + (x4 : Int) = (n : Int) := by omega
  clear e2 e3 e4 eG hp hp' en hnn
  have i1 : ¬ (1007 : Int) < (n : Int) := by omega
  have i2 : (1152921504606846976 : Int) < (G : Int) := by omega
  go_enter Tryz.func183, Tryz.ntmps183
  go_wp2_with (first
    | (go_at_call 185; refine (read_step' w U _ (by rw [hU])).mono ?_; rintro e w1 ⟨r, rfl, h2⟩)
    | (go_at_call 213; refine (byte_step (k := 2) (j := 3) h2 (by omega) rfl (unhide E2) (by omega)).mono ?_; rintro e w2 ⟨rfl, h3⟩; clear h2)
    | (go_at_call 213; refine (byte_step (k := 3) (j := 4) h3 (by omega) rfl (unhide E3) (by omega)).mono ?_; rintro e w3 ⟨rfl, h4⟩; clear h3)
    | (go_at_call 213; refine (byte_step (k := 4) (j := 5) h4 (by omega) rfl (unhide E4) (by omega)).mono ?_; rintro e w4 ⟨rfl, h5⟩; clear h4)
    | (go_at_call 214; refine (fixed_step' (k := 5) h5 (by omega) (unhide EG) (by omega)).mono ?_; rintro e w5 ⟨rfl, h6⟩; clear h5; obtain ⟨c0, c1, c2, cf⟩ := h6.cells)
    | (go_at_call 205; refine (unhide HP _).mono ?_; rintro e w6 ⟨rfl, hw⟩; have hw := hw.symm; subst hw))
  refine bodyPost_ret (v := .tuple #[.agg #[.int .i64 0, .int .i64 0, .string ⟨#[]⟩], .int .i64 21]) ?_ rfl ⟨rfl, ?_⟩
  · rw [results_cell_tmp rfl]
    go_simp
  · exact below_set (below_set (below_set h6.1 (Nat.le_refl _)) (Nat.le_refl _)) (Nat.le_refl _)

set_option maxRecDepth 10000 in
set_option maxHeartbeats 1000000 in
theorem blockOf_zeros (U : ByteArray) (w : World) (x2 n G : Nat) (hU : U.size = 1020) (e2 : (bn U).getD 2 0 = x2) (en : Blk.lenOf (bn U) = n) (eG : Pk.fixN (((bn U).drop 5).take 8) = G) (hp : Lib.hasPrefix U.data.toList [67, 80] = true) (hn : n ≤ 1007) (hg : G ≤ 1152921504606846976) (hz : ¬ Lib.trimB (U.extract (13 + n) 1020).data.toList 0 = []) :
    Calls Tryz.prog 183 #[.string U] w fun e w' => e = .returned (.tuple #[.agg #[.int .i64 0, .int .i64 0, .string ⟨#[]⟩], .int .i64 21]) ∧ Below w.heap.size w w' := by
  have l2 := getD_lt (bn_lt U) 2
  have l3 := getD_lt (bn_lt U) 3
  have l4 := getD_lt (bn_lt U) 4
  obtain ⟨x3, e3⟩ : ∃ x, (bn U).getD 3 0 = x := ⟨_, rfl⟩
  obtain ⟨x4, e4⟩ : ∃ x, (bn U).getD 4 0 = x := ⟨_, rfl⟩
  rw [e2] at l2
  rw [e3] at l3
  rw [e4] at l4
  have E2 := hide e2
  have E3 := hide e3
  have E4 := hide e4
  have EG := hide eG
  have HP := hide (fun w' => prefix_any U ⟨#[67, 80]⟩ w')
  have hp' : Lib.hasPrefix U.data.toList (⟨#[67, 80]⟩ : ByteArray).data.toList = true := hp
  rw [hp'] at HP
  have ho := or_i64 x3 x4 l3 l4
  have hnn : x3 * 256 + x4 = n := by rw [← en, Blk.lenOf, e3, e4]
  rw [hnn] at ho
  have hv1 : (x3 : Int) * 256 + (x4 : Int) = (n : Int) := by omega
  clear e2 e3 e4 eG hp hp' en hnn
  have i1 : ¬ (1007 : Int) < (n : Int) := by omega
  have i2 : ¬ (1152921504606846976 : Int) < (G : Int) := by omega
  have i3 : (13 : Int) + (n : Int) ≤ 1020 := by omega
  obtain ⟨Z, hZ⟩ : ∃ Z : ByteArray, (⟨(Lib.trimB (U.extract (13 + n) 1020).data.toList 0).toArray⟩ : ByteArray) = Z := ⟨_, rfl⟩
  have hfull : Z.toList.isEmpty = false := by
    subst hZ
    rw [ByteArray.toList_eq, List.isEmpty_eq_false_iff]
    exact hz
  have HZ := hide hZ
  clear hZ hz
  go_enter Tryz.func183, Tryz.ntmps183
  go_wp2_with (first
    | (go_at_call 185; refine (read_step' w U _ (by rw [hU])).mono ?_; rintro e w1 ⟨r, rfl, h2⟩)
    | (go_at_call 213; refine (byte_step (k := 2) (j := 3) h2 (by omega) rfl (unhide E2) (by omega)).mono ?_; rintro e w2 ⟨rfl, h3⟩; clear h2)
    | (go_at_call 213; refine (byte_step (k := 3) (j := 4) h3 (by omega) rfl (unhide E3) (by omega)).mono ?_; rintro e w3 ⟨rfl, h4⟩; clear h3)
    | (go_at_call 213; refine (byte_step (k := 4) (j := 5) h4 (by omega) rfl (unhide E4) (by omega)).mono ?_; rintro e w4 ⟨rfl, h5⟩; clear h4)
    | (go_at_call 214; refine (fixed_step' (k := 5) h5 (by omega) (unhide EG) (by omega)).mono ?_; rintro e w5 ⟨rfl, h6⟩; clear h5; obtain ⟨c0, c1, c2, cf⟩ := h6.cells)
    | (go_at_call 205; refine (unhide HP _).mono ?_; rintro e w6 ⟨rfl, hw⟩; have hw := hw.symm; subst hw)
    | (go_at_call 215; refine (trim_step h6 (U.extract (13 + n) 1020) (by rw [ByteArray.size_extract]; omega)).mono ?_; rw [unhide HZ]; rintro e w7 ⟨rfl, h7⟩; clear h6 c0 c1 c2 cf; obtain ⟨c0, c1, c2, cf⟩ := h7.cells))
  refine bodyPost_ret (v := .tuple #[.agg #[.int .i64 0, .int .i64 0, .string ⟨#[]⟩], .int .i64 21]) ?_ rfl ⟨rfl, ?_⟩
  · rw [results_cell_tmp rfl]
    go_simp
  · exact below_set (below_set (below_set h7.1 (Nat.le_refl _)) (Nat.le_refl _)) (Nat.le_refl _)

set_option maxRecDepth 10000 in
set_option maxHeartbeats 1000000 in
theorem blockOf_ok (U : ByteArray) (w : World) (x2 n G : Nat) (hU : U.size = 1020) (e2 : (bn U).getD 2 0 = x2) (en : Blk.lenOf (bn U) = n) (eG : Pk.fixN (((bn U).drop 5).take 8) = G) (hp : Lib.hasPrefix U.data.toList [67, 80] = true) (hn : n ≤ 1007) (hg : G ≤ 1152921504606846976) (hz : Lib.trimB (U.extract (13 + n) 1020).data.toList 0 = []) :
    Calls Tryz.prog 183 #[.string U] w fun e w' => e = .returned (.tuple #[.agg #[.int .i64 (x2 : Int), .int .i64 (G : Int), .string (U.extract 13 (13 + n))], .int .i64 0]) ∧ Below w.heap.size w w' := by
  have l2 := getD_lt (bn_lt U) 2
  have l3 := getD_lt (bn_lt U) 3
  have l4 := getD_lt (bn_lt U) 4
  obtain ⟨x3, e3⟩ : ∃ x, (bn U).getD 3 0 = x := ⟨_, rfl⟩
  obtain ⟨x4, e4⟩ : ∃ x, (bn U).getD 4 0 = x := ⟨_, rfl⟩
  rw [e2] at l2
  rw [e3] at l3
  rw [e4] at l4
  have E2 := hide e2
  have E3 := hide e3
  have E4 := hide e4
  have EG := hide eG
  have HP := hide (fun w' => prefix_any U ⟨#[67, 80]⟩ w')
  have hp' : Lib.hasPrefix U.data.toList (⟨#[67, 80]⟩ : ByteArray).data.toList = true := hp
  rw [hp'] at HP
  have ho := or_i64 x3 x4 l3 l4
  have hnn : x3 * 256 + x4 = n := by rw [← en, Blk.lenOf, e3, e4]
  rw [hnn] at ho
  have hv1 : (x3 : Int) * 256 + (x4 : Int) = (n : Int) := by omega
  clear e2 e3 e4 eG hp hp' en hnn
  have i1 : ¬ (1007 : Int) < (n : Int) := by omega
  have i2 : ¬ (1152921504606846976 : Int) < (G : Int) := by omega
  have i3 : (13 : Int) + (n : Int) ≤ 1020 := by omega
  have i4 : IntKind.i64.wrap (G : Int) = (G : Int) := by rw [IntKind.wrap_i64]; omega
  have HZ : Hid ((⟨(Lib.trimB (U.extract (13 + n) 1020).data.toList 0).toArray⟩ : ByteArray) = ⟨#[]⟩) := by
    show _ = _
    rw [hz]
  clear hz
  go_enter Tryz.func183, Tryz.ntmps183
  go_wp2_with (first
    | (go_at_call 185; refine (read_step' w U _ (by rw [hU])).mono ?_; rintro e w1 ⟨r, rfl, h2⟩)
    | (go_at_call 213; refine (byte_step (k := 2) (j := 3) h2 (by omega) rfl (unhide E2) (by omega)).mono ?_; rintro e w2 ⟨rfl, h3⟩; clear h2)
    | (go_at_call 213; refine (byte_step (k := 3) (j := 4) h3 (by omega) rfl (unhide E3) (by omega)).mono ?_; rintro e w3 ⟨rfl, h4⟩; clear h3)
    | (go_at_call 213; refine (byte_step (k := 4) (j := 5) h4 (by omega) rfl (unhide E4) (by omega)).mono ?_; rintro e w4 ⟨rfl, h5⟩; clear h4)
    | (go_at_call 214; refine (fixed_step' (k := 5) h5 (by omega) (unhide EG) (by omega)).mono ?_; rintro e w5 ⟨rfl, h6⟩; clear h5; obtain ⟨c0, c1, c2, cf⟩ := h6.cells)
    | (go_at_call 205; refine (unhide HP _).mono ?_; rintro e w6 ⟨rfl, hw⟩; have hw := hw.symm; subst hw)
    | (go_at_call 215; refine (trim_step h6 (U.extract (13 + n) 1020) (by rw [ByteArray.size_extract]; omega)).mono ?_; rw [unhide HZ]; rintro e w7 ⟨rfl, h7⟩; clear h6 c0 c1 c2 cf; obtain ⟨c0, c1, c2, cf⟩ := h7.cells)
    | (go_at_call 176; refine (clone_step h7 (U.extract 13 (13 + n)) (by rw [ByteArray.size_extract]; omega)).mono ?_; rintro e w8 ⟨rfl, h8⟩; clear h7 c0 c1 c2 cf; obtain ⟨c0, c1, c2, cf⟩ := h8.cells))
  refine bodyPost_ret (v := .tuple #[.agg #[.int .i64 (x2 : Int), .int .i64 (G : Int), .string (U.extract 13 (13 + n))], .int .i64 0]) ?_ rfl ⟨rfl, ?_⟩
  · rw [results_cell_tmp rfl]
    go_simp
  · exact below_set (below_set (below_set h8.1 (Nat.le_refl _)) (Nat.le_refl _)) (Nat.le_refl _)

theorem prefix_iff (U : ByteArray) : Lib.hasPrefix U.data.toList [67, 80] = true ↔ (bn U).take 2 = [67, 80] := by
  unfold Lib.hasPrefix bn
  rw [List.isPrefixOf_iff_prefix, List.prefix_iff_eq_take, ← List.map_take]
  constructor
  · intro h
    have h' : U.data.toList.take 2 = [67, 80] := h.symm
    rw [h']
    rfl
  · intro h
    have h' : (U.data.toList.take 2).map UInt8.toNat = ([67, 80] : List UInt8).map UInt8.toNat := h
    exact ((List.map_inj_right (f := UInt8.toNat) (fun a b e => UInt8.toNat_inj.1 e)).1 h').symm
theorem zeros_iff (U : ByteArray) (m : Nat) (hU : U.size = 1020) : Lib.trimB (U.extract m 1020).data.toList 0 = [] ↔ ∀ x ∈ (bn U).drop m, x = 0 := by
  rw [trim_nil]
  have e : (bn U).drop m = (U.extract m 1020).data.toList.map UInt8.toNat := by
    have := bn_from U m
    rw [hU] at this
    rw [← this]
    rfl
  rw [e]
  constructor
  · intro h x hx
    obtain ⟨u, hu, rfl⟩ := List.mem_map.1 hx
    rw [h u hu]
    rfl
  · intro h x hx
    have := h _ (List.mem_map.2 ⟨x, hx, rfl⟩)
    exact UInt8.toNat_inj.1 this

theorem blockOf_any (U : ByteArray) (w : World) (hU : U.size = 1020) :
    Calls Tryz.prog 183 #[.string U] w fun e w' => e = .returned (opened (blockR U)) ∧ Below w.heap.size w w' := by
  unfold blockR
  by_cases hp : (bn U).take 2 = [67, 80]
  · have hp' := (prefix_iff U).2 hp
    by_cases hn : Blk.lenOf (bn U) ≤ 1007
    · by_cases hg : Blk.genOf (bn U) ≤ 1152921504606846976
      · by_cases hz : ∀ x ∈ (bn U).drop (13 + Blk.lenOf (bn U)), x = 0
        · rw [if_pos ⟨hp, hn, hg, hz⟩]
          exact blockOf_ok U w _ _ _ hU rfl rfl rfl hp' hn hg ((zeros_iff U _ hU).2 hz)
        · rw [if_neg (fun h => hz h.2.2.2)]
          exact blockOf_zeros U w _ _ _ hU rfl rfl rfl hp' hn hg (fun h => hz ((zeros_iff U _ hU).1 h))
      · rw [if_neg (fun h => hg h.2.2.1)]
        exact blockOf_gen U w _ _ _ hU rfl rfl rfl hp' hn (Nat.lt_of_not_le hg)
    · rw [if_neg (fun h => hn h.2.1)]
      exact blockOf_long U w _ _ _ hU rfl rfl rfl hp' (Nat.lt_of_not_le hn)
  · rw [if_neg (fun h => hp h.1)]
    refine blockOf_prefix U w _ _ _ hU rfl rfl rfl ?_
    cases h : Lib.hasPrefix U.data.toList [67, 80] with
    | false => rfl
    | true => exact absurd ((prefix_iff U).1 h) hp
end Go.Proofs.YtlmgmdnmghgkbaaGreatDoor.L4

/- What block's Open does: the document's block, or the error. -/
namespace Go.Proofs.YtlmgmdnmghgkbaaGreatDoor.L4
open Go.ChangeShapes Go.WideShapes Go.ChangeAt Go.RowKit

/-- the result's variable is as it began -/
def Res (W w : World) : Prop := Below W.heap.size W w ∧ w.heap[W.heap.size]? = some (.cells #[.int .i64 0, .int .i64 0, .string ⟨#[]⟩] 161 (0, 0))
theorem Res.new (W : World) : Res W (W.alloc (.cells #[.int .i64 0, .int .i64 0, .string ⟨#[]⟩] 161)) := ⟨(Below.refl _ _).alloc (Nat.le_refl _) _, heap_alloc_new W _⟩
theorem Res.then {W w w' : World} (h : Res W w) (hb : Below w.heap.size w w') : Res W w' :=
  ⟨below_then h.1 hb, (hb.block _ (Array.getElem?_eq_some_iff.1 h.2).1).trans h.2⟩
theorem Res.drew {W w : World} (h : Res W w) : Res W w.drew := h.then (Below.refl _ _).drew
theorem Res.cells {W w : World} (h : Res W w) : w.cell? ⟨W.heap.size, 0, none⟩ = some (.int .i64 0) ∧ w.cell? ⟨W.heap.size, 1, none⟩ = some (.int .i64 0) ∧ w.cell? ⟨W.heap.size, 2, none⟩ = some (.string ⟨#[]⟩) ∧ ∀ i, w.frozen? ⟨W.heap.size, i, none⟩ = false := by
  have h2 := h.2
  refine ⟨?_, ?_, ?_, fun i => ?_⟩
  · simp [World.cell?, h2]
  · simp [World.cell?, h2]
  · simp [World.cell?, h2]
  · simp [World.frozen?, h2]
theorem Res.set {W w : World} (h : Res W w) (x y z : Value) : Below W.heap.size W (((w.setCell ⟨W.heap.size, 0, none⟩ x).setCell ⟨W.heap.size, 1, none⟩ y).setCell ⟨W.heap.size, 2, none⟩ z) :=
  below_set (below_set (below_set h.1 (Nat.le_refl _)) (Nat.le_refl _)) (Nat.le_refl _)

theorem str_ne {A B : ByteArray} (h : ¬ A = B) : (A.toList == B.toList) = false := beq_eq_false_iff_ne.2 (fun e => h (by
  rw [ByteArray.toList_eq, ByteArray.toList_eq] at e
  exact ByteArray.ext (Array.toList_inj.1 e)))
theorem str_eq (A : ByteArray) : (A.toList == A.toList) = true := by simp

set_option maxHeartbeats 400000 in
theorem open_size (S : ByteArray) (w : World) (h : ¬ S.size = 1024) :
    Calls Tryz.prog 142 #[.string S] w fun e w' => e = .returned (.tuple #[.agg #[.int .i64 0, .int .i64 0, .string ⟨#[]⟩], .int .i64 32]) ∧ Below w.heap.size w w' := by
  have h1 : ((S.size : Int) == 1024) = false := beq_eq_false_iff_ne.2 (by omega)
  have h2 : ((S.size : Int) != 1024) = true := bne_iff_ne.2 (by omega)
  clear h
  go_enter Tryz.func142, Tryz.ntmps142
  go_wp2
  refine bodyPost_ret (v := .tuple #[.agg #[.int .i64 0, .int .i64 0, .string ⟨#[]⟩], .int .i64 32]) ?_ rfl ⟨rfl, ?_⟩
  · rw [results_cell_tmp rfl]
    go_simp
  · exact (Below.refl _ _).alloc (Nat.le_refl _) _

set_option maxRecDepth 10000 in
set_option maxHeartbeats 1000000 in
theorem open_sum (S A B : ByteArray) (w : World) (hT : Tab w) (h : S.size = 1024) (hA : S.extract 1020 1024 = A) (hB : strOf (Blk.le4 (Crc.sum (bn (S.extract 0 1020)))) = B) (hne : ¬ A = B) :
    Calls Tryz.prog 142 #[.string S] w fun e w' => e = .returned (.tuple #[.agg #[.int .i64 0, .int .i64 0, .string ⟨#[]⟩], .int .i64 40]) ∧ Below w.heap.size w w' := by
  have hs := fun w' (h' : Tab w') => sumOf_any (S.extract 0 1020) w' h' (by rw [ByteArray.size_extract]; unfold maxLen; omega)
  rw [hB] at hs
  have HS := hide hs
  have HT := hide hT
  have hq := str_ne hne
  clear hs hT hB hne
  go_enter Tryz.func142, Tryz.ntmps142
  go_wp2_with fail
  have HX := Res.new w
  generalize w.alloc (.cells #[.int .i64 0, .int .i64 0, .string ⟨#[]⟩] 161) = w1 at *
  have HX' := hide HX
  clear HX
  go_region_held3 (fun w' => Below w.heap.size w w')
    (first | exact (unhide HX').1.drew | exact (unhide H2).1)
    (first | (go_at_call 171; refine (unhide HS _ ((unhide HT).below (unhide HX').drew.1)).mono ?_; rintro e w2 ⟨rfl, hb2⟩; have H2 := hide ((unhide HX').drew.then hb2)))
  obtain ⟨c0, c1, c2, cf⟩ := (unhide H2).cells
  go_wp2
  refine bodyPost_ret (v := .tuple #[.agg #[.int .i64 0, .int .i64 0, .string ⟨#[]⟩], .int .i64 40]) ?_ rfl ⟨rfl, ?_⟩
  · rw [results_cell_tmp rfl]
    go_simp
  · exact (unhide H2).set _ _ _

set_option maxRecDepth 10000 in
set_option maxHeartbeats 1000000 in
theorem open_fits (S A : ByteArray) (T : Int × Int × ByteArray × Nat) (w : World) (hT : Tab w) (h : S.size = 1024) (hA : S.extract 1020 1024 = A) (hB : strOf (Blk.le4 (Crc.sum (bn (S.extract 0 1020)))) = A) (hR : blockR (S.extract 0 1020) = T) :
    Calls Tryz.prog 142 #[.string S] w fun e w' => e = .returned (opened T) ∧ Below w.heap.size w w' := by
  have hs := fun w' (h' : Tab w') => sumOf_any (S.extract 0 1020) w' h' (by rw [ByteArray.size_extract]; unfold maxLen; omega)
  rw [hB] at hs
  have hk := fun w' => blockOf_any (S.extract 0 1020) w' (by rw [ByteArray.size_extract]; omega)
  rw [hR] at hk
  obtain ⟨K, G, P, E⟩ := T
  have HS := hide hs
  have HK := hide hk
  have HT := hide hT
  clear hs hT hB hk hR
  go_enter Tryz.func142, Tryz.ntmps142
  go_wp2_with fail
  have HX := Res.new w
  generalize w.alloc (.cells #[.int .i64 0, .int .i64 0, .string ⟨#[]⟩] 161) = w1 at *
  have HX' := hide HX
  clear HX
  go_region_held3 (fun w' => Below w.heap.size w w')
    (first | exact (unhide HX').1.drew | exact (unhide H2).1)
    (first | (go_at_call 171; refine (unhide HS _ ((unhide HT).below (unhide HX').drew.1)).mono ?_; rintro e w2 ⟨rfl, hb2⟩; have H2 := hide ((unhide HX').drew.then hb2)))
  go_wp2_with (go_at_call 183; refine (unhide HK _).mono ?_; unfold opened; rintro e w3 ⟨rfl, hb3⟩; have H3 := hide ((unhide H2).then hb3); obtain ⟨c0, c1, c2, cf⟩ := (unhide H3).cells)
  refine bodyPost_ret (v := opened (K, G, P, E)) ?_ rfl ⟨rfl, ?_⟩
  · rw [results_cell_tmp rfl]
    go_simp
    rfl
  · exact (unhide H3).set _ _ _

theorem bn_front (s : ByteArray) (j : Nat) : bn (s.extract 0 j) = (bn s).take j := by rw [bn_extract, List.drop_zero, Nat.sub_zero]
theorem fits_iff (S : ByteArray) (h : S.size = 1024) : S.extract 1020 1024 = strOf (Blk.le4 (Crc.sum (bn (S.extract 0 1020)))) ↔ (bn S).drop 1020 = Blk.le4 (Crc.sum ((bn S).take 1020)) := by
  have e : bn (S.extract 1020 1024) = (bn S).drop 1020 := by
    have := bn_from S 1020
    rw [h] at this
    exact this
  constructor
  · intro hh
    have := congrArg bn hh
    rw [e, bn_strOf _ (Blk.le4_lt _), bn_front] at this
    exact this
  · intro hh
    apply bn_inj
    rw [e, bn_strOf _ (Blk.le4_lt _), bn_front]
    exact hh

theorem open_any (S : ByteArray) (w : World) (hT : Tab w) :
    Calls Tryz.prog 142 #[.string S] w fun e w' => e = .returned (opened (openR S)) ∧ Below w.heap.size w w' := by
  unfold openR
  by_cases h : S.size = 1024
  · rw [if_neg (fun hh => hh h)]
    by_cases hf : (bn S).drop 1020 = Blk.le4 (Crc.sum ((bn S).take 1020))
    · rw [if_neg (fun hh => hh hf)]
      exact open_fits S _ _ w hT h rfl ((fits_iff S h).2 hf).symm rfl
    · rw [if_pos hf]
      exact open_sum S _ _ w hT h rfl rfl (fun hh => hf ((fits_iff S h).1 hh))
  · rw [if_pos h]
    exact open_size S w h
end Go.Proofs.YtlmgmdnmghgkbaaGreatDoor.L4

/- A node's sector is taken and written; what stands in a sector is read. -/
namespace Go.Proofs.YtlmgmdnmghgkbaaGreatDoor
open Go.ChangeShapes Go.WideShapes Go.ChangeAt Go.RowKit
variable {w w' : World} {p d : Nat} {h : Hp} {c : Nat} {F : List Nat} {a b kb : Nat} {fd : List Nat} {kf : Nat → Option Value}

theorem writeM_old (m : L3.Dk) (n : Int) (s : ByteArray) : (L3.writeM m n s).old.length = m.old.length := by
  unfold L3.writeM
  split
  · rfl
  · split
    · rfl
    · split
      · rfl
      · split <;> rfl
theorem takeE_cases (l : List L5.St) : L5.takeE l = 0 ∨ L5.takeE l = 50 := by
  unfold L5.takeE
  split
  · exact .inl rfl
  · exact .inr rfl
theorem gen64 (H : HeapAt w p d h c a b kb fd kf) : L5.I64 h.gen := by have := H.gen; unfold L5.I64; omega
theorem take64 (H : HeapAt w p d h c a b kb fd kf) : L5.I64 (L5.takeN 2 h.al) := by
  have := H.al.ok.few
  unfold L5.takeN L5.I64
  split
  · rename_i i hi
    have := (take_at hi 0).1
    unfold L5.In at this
    omega
  · decide

/-- where the two boxes of store stand -/
def Boxes (w : World) (a d : Nat) (k g : Int) (P : ByteArray) (w' : World) : Prop := Below w.heap.size w w' ∧ w'.cell? ⟨w.heap.size, 0, none⟩ = some (.pointer (some ⟨a, 0, none⟩)) ∧ w'.cell? ⟨w.heap.size, 1, none⟩ = some (.pointer (some ⟨d, 0, none⟩)) ∧
  w'.cell? ⟨w.heap.size + 1, 0, none⟩ = some (.int .i64 k) ∧ w'.cell? ⟨w.heap.size + 1, 1, none⟩ = some (.int .i64 g) ∧ w'.cell? ⟨w.heap.size + 1, 2, none⟩ = some (.string P)
theorem Boxes.new (w : World) (a d : Nat) (k g : Int) (P : ByteArray) : Boxes w a d k g P ((w.alloc (.cells #[.pointer (some ⟨a, 0, none⟩), .pointer (some ⟨d, 0, none⟩)] 111)).alloc (.cells #[.int .i64 k, .int .i64 g, .string P] 161)) := by
  refine ⟨((Below.refl _ _).alloc (Nat.le_refl _) _).alloc (by simp) _, ?_, ?_, ?_, ?_, ?_⟩ <;> simp
theorem cell_moves {fq : List Nat} (hm : Moves fq w w') {x i : Nat} {v : Value} (hc : w.cell? ⟨x, i, none⟩ = some v) (hx : x ∉ fq) : w'.cell? ⟨x, i, none⟩ = some v := (mv35 hm).cell hc hx

/-- the disk and the allocator have turned, all else stands where it stood -/
def STurned (w w' : World) (p d : Nat) (h : Hp) (c a b kb : Nat) (fd : List Nat) (kf : Nat → Option Value) : Prop := ∃ fd', HeapAt w' p d h c a b kb fd' kf ∧ Moves (foot p a b kb fd) w w' ∧ ∀ x ∈ fd', x ∈ fd ∨ w.heap.size ≤ x
theorem STurned.turned (k : STurned w w' p d h c a b kb fd kf) : HTurned w w' p d h c (foot p a b kb fd) := by
  obtain ⟨fd', h4, hm, hf⟩ := k
  refine ⟨_, ⟨a, b, kb, fd', kf, h4, rfl⟩, hm, fun x hx => ?_⟩
  simp only [foot, List.mem_cons] at hx ⊢
  rcases hx with e | e | e | e | e
  · exact .inl (.inl e)
  · exact .inl (.inr (.inl e))
  · exact .inl (.inr (.inr (.inl e)))
  · exact .inl (.inr (.inr (.inr (.inl e))))
  · rcases hf x e with e | e
    · exact .inl (.inr (.inr (.inr (.inr e))))
    · exact .inr e
set_option maxHeartbeats 2000000 in
set_option maxRecDepth 20000 in
theorem store_any (k : Nat) (P : ByteArray) (w : World) (H : HeapAt w p d h c a b kb fd kf) (hk : k ≤ 255) (hP : P.size ≤ 1007) (hc : c ≤ 1000000) :
    Calls Tryz.prog 88 #[.agg #[.pointer (some ⟨a, 0, none⟩), .pointer (some ⟨d, 0, none⟩)], .agg #[.int .i64 (k : Int), .int .i64 h.gen, .string P]] w fun e w' =>
      e = .returned (.tuple #[.int .i64 (storeR h (L4.wrapR (k : Int) h.gen P).1).1, .int .i64 (storeR h (L4.wrapR (k : Int) h.gen P).1).2.1]) ∧ STurned w w' p d (storeR h (L4.wrapR (k : Int) h.gen P).1).2.2 (c + 1) a b kb fd kf := by
  obtain ⟨g0, g1⟩ := H.gen
  obtain ⟨S, hS⟩ : ∃ S, L4.wrapR (k : Int) h.gen P = (S, 0) := ⟨_, L4.wrapR_ok (by omega) (by omega)⟩
  have hwr := fun w1 (hT : L4.Tab w1) => L4.wrap_any (k : Int) h.gen P w1 hT
  rw [hS] at hwr ⊢
  have HBX := hide (Boxes.new w a d (k : Int) h.gen P)
  have hlt := H.lt
  have HLT := hide hlt
  have HH := hide (H.grow (unhide HBX).1)
  have HWR := hide hwr
  have HG := hide (gen64 H)
  have HK64 := hide (take64 H)
  have HC := hide hc
  have HF0 := hide (H.mono (Nat.le_succ c))
  obtain ⟨K, hK⟩ : ∃ x, x = (k : Int) := ⟨_, rfl⟩
  obtain ⟨G, hG⟩ : ∃ x, x = h.gen := ⟨_, rfl⟩
  rw [← hK] at HBX HH HWR ⊢
  rw [← hG] at HBX HH HWR HG ⊢
  obtain ⟨_, q0, q1, r0, r1, r2⟩ := unhide HBX
  have HGE := hide hG
  clear H hlt hwr hc hk hP hS g0 g1 hG hK
  have HOK := hide ((unhide HF0).al.ok)
  by_cases hE : L5.takeE h.al = 0
  · have HTK := hide hE
    obtain ⟨N, hN⟩ : ∃ x, x = L5.takeN 2 h.al := ⟨_, rfl⟩
    have HN := hide hN
    rw [← hN] at HK64
    by_cases hW : L3.writeE h.dk N S = 0
    · have HWE := hide hW
      clear hE hN hW
      go_enter Tryz.func88, Tryz.ntmps88
      go_wp2_with (first
        | (go_at_call 128; refine (unhide HWR _ (unhide HH).tab).mono ?_; rintro e w2 ⟨rfl, hb2⟩; have c0 := (hb2.cell (World.block_lt_of_cell? _ _ q0)).trans q0; have c1 := (hb2.cell (World.block_lt_of_cell? _ _ q1)).trans q1; have d1 := (hb2.cell (World.block_lt_of_cell? _ _ r1)).trans r1; have HH2 := hide ((unhide HH).grow hb2); have HB2 := hide (below_then (unhide HBX).1 hb2); clear hb2 q0 q1 r0 r1 r2 HH HBX)
        | (go_at_call 129; refine (L5.take_any G (unhide HG) _ (unhide HH2).al).mono ?_; rintro e w3 ⟨rfl, ha3, hm3⟩; rw [unhide HTK, ← unhide HN]; have e0 := cell_moves hm3 c0 (by have := unhide HLT b (by simp [foot]); simp; omega); have e1 := cell_moves hm3 c1 (by have := unhide HLT b (by simp [foot]); simp; omega); have f1 := cell_moves hm3 d1 (by have := unhide HLT b (by simp [foot]); simp; omega); have HH3 := hide ((unhide HH2).alloc hm3 ha3 (length_take _ _)); have HM3 := hide hm3; clear ha3 hm3 c0 c1 d1)
        | (go_at_call 130; refine (L3.write_any N S fd _ (unhide HH3).dk (unhide HC)).mono ?_; rintro e w4 ⟨rfl, ht4⟩; rw [unhide HWE]; have HX4 := hide ht4; clear ht4))
      go_ret2
      have hs : storeR h S = (N, 0, { h with dk := L3.writeM h.dk N S, al := L5.takeM h.al h.gen }) := by
        unfold storeR
        rw [if_neg (fun hn => hn (unhide HTK)), ← unhide HN, if_neg (fun hn => hn (unhide HWE))]
      rw [hs]
      refine ⟨rfl, ?_⟩
      obtain ⟨fd', h4, hm4, hf4⟩ := (unhide HH3).disk (unhide HX4) (writeM_old _ _ _) (Nat.le_succ c)
      rw [unhide HGE] at h4
      have hm3 := unhide HM3
      have hsz := Nat.le_trans (unhide HB2).size hm3.size
      refine ⟨fd', h4, ((L5.Moves.of_below _ (unhide HB2)).trans hm3 (fun x hx => .inl (by simp at hx; simp [foot, hx]))).trans hm4 (fun x hx => .inl (by simp [foot, hx])), fun x hx => ?_⟩
      rcases hf4 x hx with e | e
      · exact .inl e
      · exact .inr (by omega)
    · have HWE := hide hW
      have hW1 : (L3.writeE h.dk N S == 0) = false := beq_eq_false_iff_ne.2 hW
      have hW2 : (L3.writeE h.dk N S != 0) = true := bne_iff_ne.2 hW
      obtain ⟨E, hE'⟩ : ∃ x, x = L3.writeE h.dk N S := ⟨_, rfl⟩
      rw [← hE'] at hW1 hW2
      have HE := hide hE'
      clear hE hN hW hE'
      go_enter Tryz.func88, Tryz.ntmps88
      go_wp2_with (first
        | (go_at_call 128; refine (unhide HWR _ (unhide HH).tab).mono ?_; rintro e w2 ⟨rfl, hb2⟩; have c0 := (hb2.cell (World.block_lt_of_cell? _ _ q0)).trans q0; have c1 := (hb2.cell (World.block_lt_of_cell? _ _ q1)).trans q1; have d1 := (hb2.cell (World.block_lt_of_cell? _ _ r1)).trans r1; have HH2 := hide ((unhide HH).grow hb2); have HB2 := hide (below_then (unhide HBX).1 hb2); clear hb2 q0 q1 r0 r1 r2 HH HBX)
        | (go_at_call 129; refine (L5.take_any G (unhide HG) _ (unhide HH2).al).mono ?_; rintro e w3 ⟨rfl, ha3, hm3⟩; rw [unhide HTK, ← unhide HN]; have e0 := cell_moves hm3 c0 (by have := unhide HLT b (by simp [foot]); simp; omega); have e1 := cell_moves hm3 c1 (by have := unhide HLT b (by simp [foot]); simp; omega); have f1 := cell_moves hm3 d1 (by have := unhide HLT b (by simp [foot]); simp; omega); have HH3 := hide ((unhide HH2).alloc hm3 ha3 (length_take _ _)); have HM3 := hide hm3; clear ha3 hm3 c0 c1 d1)
        | (go_at_call 130; refine (L3.write_any N S fd _ (unhide HH3).dk (unhide HC)).mono ?_; rintro e w4 ⟨rfl, ht4⟩; rw [← unhide HE]; obtain ⟨fd', h4, hm4, hf4⟩ := (unhide HH3).disk ht4 (writeM_old _ _ _) (Nat.le_succ c); have i0 := cell_moves hm4 e0 (by intro hx; have := unhide HLT _ (by simp [foot]; exact .inr (.inr (.inr (.inr hx)))); omega); have i1 := cell_moves hm4 f1 (by intro hx; have := unhide HLT _ (by simp [foot]; exact .inr (.inr (.inr (.inr hx)))); omega); have HH4 := hide h4; have HM4 := hide (And.intro hm4 hf4); clear ht4 h4 hm4 hf4 e0 e1 f1)
        | (go_at_call 81; refine (L5.drop_any N G _ (unhide HH4).al (unhide HK64) (unhide HG)).mono ?_; rintro e w5 ⟨rfl, ha5, hm5⟩; have HX5 := hide (And.intro ha5 hm5); clear ha5 hm5))
      go_ret2
      have hs : storeR h S = (0, E, { h with dk := L3.writeM h.dk N S, al := L5.dropM 2 (L5.takeM h.al h.gen) N h.gen }) := by
        unfold storeR
        rw [if_neg (fun hn => hn (unhide HTK)), ← unhide HN, if_pos (unhide HWE), ← unhide HE]
      rw [hs]
      refine ⟨rfl, ?_⟩
      obtain ⟨ha5, hm5⟩ := unhide HX5
      obtain ⟨hm4, hf4⟩ := unhide HM4
      have h5 := (unhide HH4).alloc hm5 ha5 (length_drop _ _ _)
      rw [unhide HGE] at h5
      have hm3 := unhide HM3
      have hsz := Nat.le_trans (unhide HB2).size hm3.size
      refine ⟨fd', h5, (((L5.Moves.of_below _ (unhide HB2)).trans hm3 (fun x hx => .inl (by simp at hx; simp [foot, hx]))).trans hm4 (fun x hx => .inl (by simp [foot, hx]))).trans hm5 (fun x hx => .inl (by simp at hx; simp [foot, hx])), fun x hx => ?_⟩
      rcases hf4 x hx with e | e
      · exact .inl e
      · exact .inr (by omega)
  · have h50 : L5.takeE h.al = 50 := (takeE_cases h.al).resolve_left hE
    have HTK := hide h50
    clear hE h50
    go_enter Tryz.func88, Tryz.ntmps88
    go_wp2_with (first
      | (go_at_call 128; refine (unhide HWR _ (unhide HH).tab).mono ?_; rintro e w2 ⟨rfl, hb2⟩; have c0 := (hb2.cell (World.block_lt_of_cell? _ _ q0)).trans q0; have c1 := (hb2.cell (World.block_lt_of_cell? _ _ q1)).trans q1; have d1 := (hb2.cell (World.block_lt_of_cell? _ _ r1)).trans r1; have HH2 := hide ((unhide HH).grow hb2); have HB2 := hide (below_then (unhide HBX).1 hb2); clear hb2 q0 q1 r0 r1 r2 HH HBX)
      | (go_at_call 129; refine (L5.take_any G (unhide HG) _ (unhide HH2).al).mono ?_; rintro e w3 ⟨rfl, ha3, hm3⟩; rw [unhide HTK]; have e0 := cell_moves hm3 c0 (by have := unhide HLT b (by simp [foot]); simp; omega); have e1 := cell_moves hm3 c1 (by have := unhide HLT b (by simp [foot]); simp; omega); have f1 := cell_moves hm3 d1 (by have := unhide HLT b (by simp [foot]); simp; omega); have HH3 := hide ((unhide HH2).alloc hm3 ha3 (length_take _ _)); have HM3 := hide hm3; clear ha3 hm3 c0 c1 d1))
    go_ret2
    have htm : L5.takeM h.al G = h.al := by
      have := unhide HTK
      unfold L5.takeE at this
      unfold L5.takeM
      split
      · rename_i i hi
        rw [hi] at this
        exact absurd (show (0 : Int) = 50 from this) (by decide)
      · rfl
    have hs : storeR h S = (0, 50, h) := by
      unfold storeR
      rw [if_pos (by rw [unhide HTK]; decide), unhide HTK]
    rw [hs]
    refine ⟨rfl, ?_⟩
    have h3 := (unhide HH3).mono (Nat.le_succ c)
    rw [htm] at h3
    exact ⟨fd, h3, (L5.Moves.of_below _ (unhide HB2)).trans (unhide HM3) (fun x hx => .inl (by simp at hx; simp [foot, hx])), fun x hx => .inl hx⟩
end Go.Proofs.YtlmgmdnmghgkbaaGreatDoor

/- What stands in a sector is read: fetch; Get. -/
namespace Go.Proofs.YtlmgmdnmghgkbaaGreatDoor
open Go.ChangeShapes Go.WideShapes Go.ChangeAt Go.RowKit
variable {w w' : World} {p d : Nat} {h : Hp} {c : Nat} {F : List Nat} {a b kb : Nat} {fd : List Nat} {kf : Nat → Option Value}

def FetchSaid (T : L6.Nd × Int × Int) (w : World) (x : Ending) (w' : World) : Prop := ∃ (ai ak : Option Addr) (ci ck : Nat), x = .returned (.tuple #[.agg #[.bool T.1.leaf, .slice ai T.1.its.length ci, .slice ak T.1.kds.length ck], .int .i64 T.2.1, .int .i64 T.2.2]) ∧ L6.Has w' T.1 ai ak ∧ Below w.heap.size w w'

theorem results_cell_tmp2 {fn : Func} {p u v : Tmp} {ty : TypeId} (h : fn.results = #[.cell p ty, .tmp u, .tmp v]) (tmps : Array Value) (P : Program) (w : World) :
    (results fn tmps).run P w =
      ((asAddr (tmps.getD p undef)).run P w).andThen fun a w₁ => ((loadVar ty a).run P w₁).andThen fun x w₂ => .ok (.tuple #[x, tmps.getD u undef, tmps.getD v undef]) w₂ := by
  simp only [results, h]
  simp [Sem.run_bind, Result.andThen]
theorem readM_cases (m : L3.Dk) (q : Int) : (L3.readM m q).2 = 0 ∨ L3.readM m q = (ByteArray.empty, (L3.readM m q).2) := by
  unfold L3.readM
  split
  · exact .inr rfl
  · split
    · exact .inr rfl
    · exact .inl rfl

set_option maxHeartbeats 4000000 in
set_option maxRecDepth 20000 in
theorem fetch_any (q : Int) (w : World) (H : HeapAt w p d h c a b kb fd kf) :
    Calls Tryz.prog 103 #[.agg #[.pointer (some ⟨a, 0, none⟩), .pointer (some ⟨d, 0, none⟩)], .int .i64 q] w fun e w' => FetchSaid (fetchM h.dk q) w e w' := by
  have hb0 := below_alloc w (.cells #[.pointer (some ⟨a, 0, none⟩), .pointer (some ⟨d, 0, none⟩)] 111)
  have q1 : (w.alloc (.cells #[.pointer (some ⟨a, 0, none⟩), .pointer (some ⟨d, 0, none⟩)] 111)).cell? ⟨w.heap.size, 1, none⟩ = some (.pointer (some ⟨d, 0, none⟩)) := by simp
  have HBa := hide hb0
  have HH0 := hide (H.grow hb0)
  clear H hb0
  have hs0 : (w.alloc (.cells #[.pointer (some ⟨a, 0, none⟩), .pointer (some ⟨d, 0, none⟩)] 111)).heap.size = w.heap.size + 1 := World.size_alloc _ _
  obtain ⟨B, hB⟩ : ∃ x, x = w.heap.size := ⟨_, rfl⟩
  have HBE := hide hB
  go_enter Tryz.func103, Tryz.ntmps103
  go_wp2_with fail
  rw [← hB] at q1 hs0 ⊢
  clear hB
  generalize w.alloc (.cells #[.pointer (some ⟨a, 0, none⟩), .pointer (some ⟨d, 0, none⟩)] 111) = w0 at *
  have HP := hide (L6.Nblk.new w0 false none none 0 0 0 0)
  have hb1 := below_alloc w0 (.cells #[.bool false, .slice none 0 0, .slice none 0 0] 43)
  have HB := hide (below_then (unhide HBa) hb1)
  have HH := hide ((unhide HH0).grow hb1)
  have HR := hide (Nat.le_trans (unhide HBa).size (Nat.le_refl w0.heap.size))
  clear hb1
  rw [hs0] at HP HR
  clear hs0
  obtain ⟨P, hP⟩ : ∃ x, x = B + 1 := ⟨_, rfl⟩
  rw [← hP] at HP HR ⊢
  clear hP
  generalize w0.alloc (.cells #[.bool false, .slice none 0 0, .slice none 0 0] 43) = w1 at *
  obtain ⟨fb, lb, ov, hD, _⟩ := (unhide HH).dk
  refine (L3.read_any q w1 hD).mono ?_
  clear hD
  rintro x w2 ⟨rfl, hb2⟩
  have hp2 := (unhide HP).below hb2
  have c0 := hp2.cell0
  have c1 := hp2.cell1
  have c2 := hp2.cell2
  have f0 := hp2.free 0
  have f1 := hp2.free 1
  have f2 := hp2.free 2
  have HP2 := hide hp2
  have HB2 := hide (below_then (unhide HB) hb2)
  have HH2 := hide ((unhide HH).grow hb2)
  clear hb2 hp2 HP HB HH HH0 HBa
  by_cases hr : (L3.readM h.dk q).2 = 0
  · have hD : fetchM h.dk q = nodeOf (L3.readM h.dk q).1 := by unfold fetchM; rw [if_neg (fun hn => hn hr)]
    rw [hr]
    obtain ⟨S, hS⟩ : ∃ x, x = (L3.readM h.dk q).1 := ⟨_, rfl⟩
    rw [← hS] at hD ⊢
    have HDf := hide hD
    clear hD hr hS
    go_wp2_with fail
    refine (L4.open_any S w2 (unhide HH2).tab).mono ?_
    rintro x w3 ⟨rfl, hb3⟩
    unfold L4.opened
    generalize hO : L4.openR S = O at *
    obtain ⟨K, G, Y, eo⟩ := O
    simp only
    have hD : nodeOf S = if eo ≠ 0 then (L6.nd0, 0, 70) else if (L6.decodeN Y).2 ≠ 0 then (L6.nd0, 0, 70) else if K ≠ (kindN (L6.decodeN Y).1 : Int) then (L6.nd0, 0, 70) else ((L6.decodeN Y).1, G, 0) := by
      unfold nodeOf
      rw [hO]
    rw [← unhide HDf] at hD
    clear HDf
    have hp3 := (unhide HP2).below hb3
    clear c0 c1 c2 f0 f1 f2
    by_cases he : eo = 0
    · subst he
      rw [if_neg (by simp)] at hD
      have HD := hide hD
      have hB4 := below_alloc w3 (.cells #[.int .i64 K, .int .i64 G, .string Y] 161)
      have HX4 := hide (L4.Box.new w3 (.int .i64 K) (.int .i64 G) (.string Y))
      have HB4 := hide (below_then (below_then (unhide HB2) hb3) hB4)
      have HP4 := hide (hp3.below hB4)
      have HPX := hide hp3.lt
      clear hO hD hb3 hp3 hB4 HB2 HP2
      go_wp2_with fail
      obtain ⟨X, hX⟩ : ∃ x, x = w3.heap.size := ⟨_, rfl⟩
      unfold L4.Box at HX4
      rw [← hX] at HX4 HPX ⊢
      clear hX
      generalize w3.alloc (.cells #[.int .i64 K, .int .i64 G, .string Y] 161) = w4 at *
      refine (L6.decode_any Y w4).mono ?_
      rintro x w5 ⟨ai, ak, ci, ck, rfl, hh5, hb5⟩
      obtain ⟨hbx, b0, b1, b2⟩ := unhide HX4
      have hlx : X < w4.heap.size := World.block_lt_of_cell? _ _ b0
      have y0 := (hb5.cell (p := ⟨X, 0, none⟩) hlx).trans b0
      have y1 := (hb5.cell (p := ⟨X, 1, none⟩) hlx).trans b1
      clear hbx b0 b1 b2 HX4 hlx
      have hp5 := (unhide HP4).below hb5
      have HB5 := hide (below_then (unhide HB4) hb5)
      clear hb5 HP4 HB4
      generalize L6.decodeN Y = DN at *
      obtain ⟨n, ed⟩ := DN
      simp only at hh5 HD ⊢
      have hN := L6.Nblk.new w5 n.leaf ai ak n.its.length ci n.kds.length ck
      have hb6 := below_alloc w5 (.cells #[.bool n.leaf, .slice ai n.its.length ci, .slice ak n.kds.length ck] 43)
      have HH6 := hide (hh5.grow hb6)
      have hp6 := hp5.below hb6
      have HB6 := hide (below_then (unhide HB5) hb6)
      have z0 := (hb6.cell (World.block_lt_of_cell? _ _ y0)).trans y0
      have z1 := (hb6.cell (World.block_lt_of_cell? _ _ y1)).trans y1
      have x0 := hN.cell0
      have x1 := hN.cell1
      have x2 := hN.cell2
      have c0 := hp6.cell0
      have c1 := hp6.cell1
      have c2 := hp6.cell2
      have f0 := hp6.free 0
      have f1 := hp6.free 1
      have f2 := hp6.free 2
      have HP6 := hide hp6
      clear hh5 hN hb6 hp6 hp5 HB5 y0 y1
      obtain ⟨Q, hQ⟩ : ∃ x, x = w5.heap.size := ⟨_, rfl⟩
      go_wp2_with fail
      rw [← hQ] at x0 x1 x2 ⊢
      clear hQ
      generalize w5.alloc (.cells #[.bool n.leaf, .slice ai n.its.length ci, .slice ak n.kds.length ck] 43) = w6 at *
      by_cases hd : ed = 0
      · subst hd
        have HD2 : Hid (fetchM h.dk q = if K ≠ (kindN n : Int) then (L6.nd0, 0, 70) else (n, G, 0)) := by
          have := unhide HD
          rw [if_neg (by simp)] at this
          exact this
        clear HD c0 c1 c2 f0 f1 f2
        obtain ⟨KN, hKN⟩ : ∃ x : Int, x = (if n.leaf then 1 else 2) := ⟨_, rfl⟩
        have HKN := hide hKN
        have hKe : (kindN n : Int) = KN := by rw [hKN]; unfold kindN; split <;> rfl
        have HKE := hide hKe
        clear hKN hKe
        by_cases hK : K = KN
        · have HD : Hid (fetchM h.dk q = (n, G, 0)) := by
            have := unhide HD2
            rw [if_neg (fun hn => hn (by rw [unhide HKE]; exact hK))] at this
            exact this
          clear HD2
          have hK1 : (K == KN) = true := by rw [hK]; simp
          have hK2 : (K != KN) = false := by rw [hK]; simp
          clear hK
          go_region_held3 (fun w' => w'.cell? ⟨X, 0, none⟩ = some (.int .i64 K) ∧ w'.cell? ⟨Q, 0, none⟩ = some (.bool n.leaf) ∧ w'.cell? ⟨Q, 1, none⟩ = some (.slice ai n.its.length ci) ∧ w'.cell? ⟨Q, 2, none⟩ = some (.slice ak n.kds.length ck))
            (first | assumption | exact ⟨z0, x0, x1, x2⟩ | exact ⟨k0, m0, m1, m2⟩)
            (first
              | (go_at_call 89; go_split_ands; refine (kindOf_any n.leaf _ _ _).mono ?_; rintro e w7 ⟨rfl, hb7⟩; rw [← unhide HKN]; have k0 := (hb7.cell (World.block_lt_of_cell? _ _ (show w6.drew.cell? _ = _ from z0))).trans z0; have m0 := (hb7.cell (World.block_lt_of_cell? _ _ (show w6.drew.cell? _ = _ from x0))).trans x0; have m1 := (hb7.cell (World.block_lt_of_cell? _ _ (show w6.drew.cell? _ = _ from x1))).trans x1; have m2 := (hb7.cell (World.block_lt_of_cell? _ _ (show w6.drew.cell? _ = _ from x2))).trans x2; have HB7 := hide (below_then (below_drew w6) hb7); clear hb7))
          have hp7 := (unhide HP6).below (unhide HB7)
          have c0 := hp7.cell0
          have c1 := hp7.cell1
          have c2 := hp7.cell2
          have f0 := hp7.free 0
          have f1 := hp7.free 1
          have f2 := hp7.free 2
          have HP7 := hide hp7
          have HH7 := hide ((unhide HH6).grow (unhide HB7))
          have HB8 := hide (below_then (unhide HB6) (unhide HB7))
          have u1 := ((unhide HB7).cell (World.block_lt_of_cell? _ _ z1)).trans z1
          clear hp7 z0 z1 x0 x1 x2
          have hne : X ≠ P := by have := unhide HPX; omega
          have hne' : P ≠ X := fun e => hne e.symm
          go_wp2_with fail
          go_region
          go_wp2
          have hst := (unhide HP7).store n.leaf ai n.its.length ci ak n.kds.length ck (unhide HH7)
          refine bodyPost_ret (v := .tuple #[.agg #[.bool n.leaf, .slice ai n.its.length ci, .slice ak n.kds.length ck], .int .i64 G, .int .i64 0]) ?_ rfl ?_
          · rw [results_cell_tmp2 rfl]
            go_simp
          · rw [unhide HD]
            exact ⟨ai, ak, ci, ck, rfl, hst.2.grow (below_drew _), (L6.below_store (L6.below_store (L6.below_store (unhide HB8) P 0 _ (unhide HR)) P 1 _ (unhide HR)) P 2 _ (unhide HR)).drew⟩
        · have HD : Hid (fetchM h.dk q = (L6.nd0, 0, 70)) := by
            have := unhide HD2
            rw [if_pos (fun hn => hK (by rw [← unhide HKE]; exact hn))] at this
            exact this
          have hK1 : (K == KN) = false := beq_eq_false_iff_ne.2 hK
          have hK2 : (K != KN) = true := bne_iff_ne.2 hK
          clear HD2 hK
          go_region_held3 (fun w' => w'.cell? ⟨X, 0, none⟩ = some (.int .i64 K) ∧ w'.cell? ⟨Q, 0, none⟩ = some (.bool n.leaf) ∧ w'.cell? ⟨Q, 1, none⟩ = some (.slice ai n.its.length ci) ∧ w'.cell? ⟨Q, 2, none⟩ = some (.slice ak n.kds.length ck))
            (first | assumption | exact ⟨z0, x0, x1, x2⟩ | exact ⟨k0, m0, m1, m2⟩)
            (first
              | (go_at_call 89; go_split_ands; refine (kindOf_any n.leaf _ _ _).mono ?_; rintro e w7 ⟨rfl, hb7⟩; rw [← unhide HKN]; have k0 := (hb7.cell (World.block_lt_of_cell? _ _ (show w6.drew.cell? _ = _ from z0))).trans z0; have m0 := (hb7.cell (World.block_lt_of_cell? _ _ (show w6.drew.cell? _ = _ from x0))).trans x0; have m1 := (hb7.cell (World.block_lt_of_cell? _ _ (show w6.drew.cell? _ = _ from x1))).trans x1; have m2 := (hb7.cell (World.block_lt_of_cell? _ _ (show w6.drew.cell? _ = _ from x2))).trans x2; have HB7 := hide (below_then (below_drew w6) hb7); clear hb7))
          have hp7 := (unhide HP6).below (unhide HB7)
          have c0 := hp7.cell0
          have c1 := hp7.cell1
          have c2 := hp7.cell2
          have f0 := hp7.free 0
          have f1 := hp7.free 1
          have f2 := hp7.free 2
          have HP7 := hide hp7
          have HH7 := hide ((unhide HH6).grow (unhide HB7))
          have HB8 := hide (below_then (unhide HB6) (unhide HB7))
          have u1 := ((unhide HB7).cell (World.block_lt_of_cell? _ _ z1)).trans z1
          clear hp7 z0 z1 x0 x1 x2
          go_wp2
          have hst := (unhide HP7).store false none 0 0 none 0 0 (m := L6.nd0) (bi := none) (bk := none) ⟨.inl rfl, .inl rfl⟩
          refine bodyPost_ret (v := .tuple #[.agg #[.bool false, .slice none 0 0, .slice none 0 0], .int .i64 0, .int .i64 70]) ?_ rfl ?_
          · rw [results_cell_tmp2 rfl]
            go_simp
          · rw [unhide HD]
            exact ⟨none, none, 0, 0, rfl, hst.2, L6.below_store (L6.below_store (L6.below_store (unhide HB8) P 0 _ (unhide HR)) P 1 _ (unhide HR)) P 2 _ (unhide HR)⟩
      · have hd1 : ((ed : Int) == 0) = false := beq_eq_false_iff_ne.2 (by omega)
        have hd2 : ((ed : Int) != 0) = true := bne_iff_ne.2 (by omega)
        have HD2 : Hid (fetchM h.dk q = (L6.nd0, 0, 70)) := by
          have := unhide HD
          rw [if_pos hd] at this
          exact this
        clear HD hd
        have HD := HD2
        clear HD2
        go_quiet (fail)
        rename_i nq
        have hp7 : L6.Nblk (w6.drewN nq) P false none 0 0 none 0 0 := unhide HP6
        have c0 := hp7.cell0
        have c1 := hp7.cell1
        have c2 := hp7.cell2
        have f0 := hp7.free 0
        have f1 := hp7.free 1
        have f2 := hp7.free 2
        have HP7 := hide hp7
        have HB8 : Hid (Below w.heap.size w (w6.drewN nq)) := below_then (unhide HB6) ⟨rfl, rfl, rfl, Nat.le_refl _, fun _ _ => rfl⟩
        clear hp7 z0 z1 x0 x1 x2
        go_wp2
        have hst := (unhide HP7).store false none 0 0 none 0 0 (m := L6.nd0) (bi := none) (bk := none) ⟨.inl rfl, .inl rfl⟩
        refine bodyPost_ret (v := .tuple #[.agg #[.bool false, .slice none 0 0, .slice none 0 0], .int .i64 0, .int .i64 70]) ?_ rfl ?_
        · rw [results_cell_tmp2 rfl]
          go_simp
        · rw [unhide HD]
          exact ⟨none, none, 0, 0, rfl, hst.2, L6.below_store (L6.below_store (L6.below_store (unhide HB8) P 0 _ (unhide HR)) P 1 _ (unhide HR)) P 2 _ (unhide HR)⟩
    · have her : ((eo : Int) == 0) = false := beq_eq_false_iff_ne.2 (by omega)
      have hen : ((eo : Int) != 0) = true := bne_iff_ne.2 (by omega)
      rw [if_pos he] at hD
      have HD := hide hD
      have HB2' := hide (below_then (unhide HB2) (below_then hb3 (below_alloc w3 (.cells #[.int .i64 K, .int .i64 G, .string Y] 161))))
      have hp4 := hp3.below (below_alloc w3 (.cells #[.int .i64 K, .int .i64 G, .string Y] 161))
      have c0 := hp4.cell0
      have c1 := hp4.cell1
      have c2 := hp4.cell2
      have f0 := hp4.free 0
      have f1 := hp4.free 1
      have f2 := hp4.free 2
      have HP4 := hide hp4
      clear hO hD hb3 hp3 hp4
      go_wp2
      have hst := (unhide HP4).store false none 0 0 none 0 0 (m := L6.nd0) (bi := none) (bk := none) ⟨.inl rfl, .inl rfl⟩
      refine bodyPost_ret (v := .tuple #[.agg #[.bool false, .slice none 0 0, .slice none 0 0], .int .i64 0, .int .i64 70]) ?_ rfl ?_
      · rw [results_cell_tmp2 rfl]
        go_simp
      · rw [unhide HD]
        exact ⟨none, none, 0, 0, rfl, hst.2, L6.below_store (L6.below_store (L6.below_store (unhide HB2') P 0 _ (unhide HR)) P 1 _ (unhide HR)) P 2 _ (unhide HR)⟩
  · have hD : fetchM h.dk q = (L6.nd0, 0, (L3.readM h.dk q).2) := by unfold fetchM; rw [if_pos hr]
    obtain ⟨E, hE⟩ : ∃ x, x = (L3.readM h.dk q).2 := ⟨_, rfl⟩
    rw [← hE] at hD hr ⊢
    have HD := hide hD
    clear hE
    have hr1 : (E == 0) = false := beq_eq_false_iff_ne.2 hr
    have hr2 : (E != 0) = true := bne_iff_ne.2 hr
    clear hD hr
    go_wp2
    have hst := (unhide HP2).store false none 0 0 none 0 0 (m := L6.nd0) (bi := none) (bk := none) ⟨.inl rfl, .inl rfl⟩
    refine bodyPost_ret (v := .tuple #[.agg #[.bool false, .slice none 0 0, .slice none 0 0], .int .i64 0, .int .i64 E]) ?_ rfl ?_
    · rw [results_cell_tmp2 rfl]
      go_simp
    · rw [unhide HD]
      exact ⟨none, none, 0, 0, rfl, hst.2, L6.below_store (L6.below_store (L6.below_store (unhide HB2) P 0 _ (unhide HR)) P 1 _ (unhide HR)) P 2 _ (unhide HR)⟩
end Go.Proofs.YtlmgmdnmghgkbaaGreatDoor

/- Get; Put. -/
namespace Go.Proofs.YtlmgmdnmghgkbaaGreatDoor
open Go.ChangeShapes Go.WideShapes Go.ChangeAt Go.RowKit
variable {w w' : World} {p d : Nat} {h : Hp} {c : Nat} {F : List Nat} {a b kb : Nat} {fd : List Nat} {kf : Nat → Option Value}

def GetSaid (T : L6.Nd × Int) (w : World) (x : Ending) (w' : World) : Prop := ∃ (ai ak : Option Addr) (ci ck : Nat), x = .returned (.tuple #[.agg #[.bool T.1.leaf, .slice ai T.1.its.length ci, .slice ak T.1.kds.length ck], .int .i64 T.2]) ∧ L6.Has w' T.1 ai ak ∧ Below w.heap.size w w'

set_option maxHeartbeats 2000000 in
set_option maxRecDepth 20000 in
theorem hget_any (q : Int) (hq : L5.I64 q) (w : World) (H : IsHeap w p d h c F) :
    Calls Tryz.prog 47 #[.pointer (some ⟨p, 0, none⟩), .int .i64 q] w fun e w' => GetSaid (getR h q) w e w' := by
  obtain ⟨a, b, kb, fd, kf, H, rfl⟩ := H
  have HP := hide (L6.Nblk.new w false none none 0 0 0 0)
  have hb0 := below_alloc w (.cells #[.bool false, .slice none 0 0, .slice none 0 0] 43)
  have H0 := H.grow hb0
  have c0 := H0.cell0
  have c1 := H0.cell1
  have HH := hide H0
  have HB := hide hb0
  have HQ := hide hq
  have HR := hide (Nat.le_refl w.heap.size)
  clear H H0 hb0 hq
  by_cases hz : cntL h.al q = 0
  · have hz' : ((L5.cntS (L5.sec 2 h.al q) : Nat) : Int) = 0 := by have : L5.cntS (L5.sec 2 h.al q) = 0 := hz; omega
    have hD : getR h q = (L6.nd0, 51) := by unfold getR; exact if_pos hz
    have HD := hide hD
    clear hz hD
    go_enter Tryz.func47, Tryz.ntmps47
    go_wp2_with (go_at_call 82; refine (L5.count_any q (unhide HQ) _ (unhide HH).al).mono ?_; rintro e w1 ⟨rfl, hw⟩; rw [hw]; clear hw w1; rw [hz'])
    refine bodyPost_ret (v := .tuple #[.agg #[.bool false, .slice none 0 0, .slice none 0 0], .int .i64 51]) ?_ rfl ?_
    · rw [results_cell_tmp rfl]
      go_simp
    · rw [unhide HD]
      exact ⟨none, none, 0, 0, rfl, ⟨.inl rfl, .inl rfl⟩, unhide HB⟩
  · have hz' : (((L5.cntS (L5.sec 2 h.al q) : Nat) : Int) == 0) = false := beq_eq_false_iff_ne.2 (by have : ¬ L5.cntS (L5.sec 2 h.al q) = 0 := hz; omega)
    have hD : getR h q = ((fetchM h.dk q).1, (fetchM h.dk q).2.2) := by unfold getR; exact if_neg hz
    have HD := hide hD
    obtain ⟨C, hC⟩ : ∃ y, y = ((L5.cntS (L5.sec 2 h.al q) : Nat) : Int) := ⟨_, rfl⟩
    rw [← hC] at hz'
    have HCE := hide hC
    clear hz hD hC
    obtain ⟨P, hP⟩ : ∃ x, x = w.heap.size := ⟨_, rfl⟩
    go_enter Tryz.func47, Tryz.ntmps47
    go_wp2_with (first
      | (go_at_call 82; refine (L5.count_any q (unhide HQ) _ (unhide HH).al).mono ?_; rintro e w1 ⟨rfl, hw⟩; rw [hw]; clear hw w1; rw [← unhide HCE]))
    rw [← hP] at HP ⊢
    have HPE := hide hP
    clear hP
    generalize w.alloc (.cells #[.bool false, .slice none 0 0, .slice none 0 0] 43) = w1 at *
    refine (fetch_any q w1 (unhide HH)).mono ?_
    rintro x w2 ⟨ai, ak, ci, ck, rfl, hh2, hb2⟩
    have hp2 := (unhide HP).below hb2
    have HB2 := hide (below_then (unhide HB) hb2)
    generalize fetchM h.dk q = T at *
    obtain ⟨n, G, E⟩ := T
    simp only at hh2 HD ⊢
    have hN := L6.Nblk.new w2 n.leaf ai ak n.its.length ci n.kds.length ck
    have hb3 := below_alloc w2 (.cells #[.bool n.leaf, .slice ai n.its.length ci, .slice ak n.kds.length ck] 43)
    have hp3 := hp2.below hb3
    have HH3 := hide (hh2.grow hb3)
    have HB3 := hide (below_then (unhide HB2) hb3)
    have x0 := hN.cell0
    have x1 := hN.cell1
    have x2 := hN.cell2
    have z0 := hp3.cell0
    have z1 := hp3.cell1
    have z2 := hp3.cell2
    have f0 := hp3.free 0
    have f1 := hp3.free 1
    have f2 := hp3.free 2
    have HP3 := hide hp3
    clear c0 c1 hb2 hp2 hh2 hN hb3 hp3
    go_wp2
    have hst := (unhide HP3).store n.leaf ai n.its.length ci ak n.kds.length ck (unhide HH3)
    refine bodyPost_ret (v := .tuple #[.agg #[.bool n.leaf, .slice ai n.its.length ci, .slice ak n.kds.length ck], .int .i64 E]) ?_ rfl ?_
    · rw [results_cell_tmp rfl]
      go_simp
    · rw [unhide HD]
      have hR : w.heap.size ≤ P := Nat.le_of_eq (unhide HPE).symm
      exact ⟨ai, ak, ci, ck, rfl, hst.2, L6.below_store (L6.below_store (L6.below_store (unhide HB3) P 0 _ hR) P 1 _ hR) P 2 _ hR⟩
end Go.Proofs.YtlmgmdnmghgkbaaGreatDoor
