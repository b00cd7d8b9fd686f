/- The walk of the law PackOne, where there are eight bytes or more. -/
import Derived.Test.YtnjdkocpfcodfaaCuts
import Derived.Deep.RegionHeld3
import Derived.Deep.QuietTactic
import Derived.BigQuiet
namespace Go.Proofs.Ytnjdkocpfcodfaa
open Go.ChangeShapes Go.WideShapes Go.ChangeAt Go.RowKit

/-- a short number is read, or not -/
theorem part1 (s : ByteArray) (_hs : s.size ≤ 1000000) :
    (∃ (n k m : Nat) (L : ByteArray), shortR s 0 = (n, L, 0) ∧ (∀ W, Calls Try.prog 13 #[.int .u64 (n : Int)] W fun e w' => e = .returned (.string (s.extract 0 k)) ∧ Below W.heap.size W w') ∧
        leftR L 0 = m ∧ (s.size : Int) - (m : Int) = (k : Int) ∧ k ≤ s.size) ∨
      (∃ (e : Nat) (L : ByteArray), shortR s 0 = (0, L, e) ∧ e ≠ 0) := by
  rcases scan_cases s with ⟨n, k, hsc, hn, _, _, hks, hk, htk⟩ | ⟨er, hsc, h0, _, _⟩
  · refine .inl ⟨n, k, s.size - k, s.extract k s.size, ?_, fun W => ?_, ?_, by omega, hks⟩
    · unfold shortR; rw [if_neg (by simp), hsc]
    · have e : strOf (Pk.shL n) = s.extract 0 k := bn_inj (by rw [bn_front, htk, bn_strOf _ (Pk.shL_lt n)])
      have := short_any n W (by omega)
      rw [Int.toNat_natCast, e] at this
      exact this
    · unfold leftR
      rw [if_neg (by simp), ByteArray.size_extract]
      omega
  · exact .inr ⟨er, s.extract 0 s.size, by unfold shortR; rw [if_neg (by simp), hsc], h0⟩

/-- a text is read, or not -/
theorem part2 (s : ByteArray) (most : Int) (hs : s.size ≤ 1000000) :
    (∃ (t L : ByteArray) (k m : Nat), textR s 0 most = (t, L, 0) ∧ (∀ W, Calls Try.prog 15 #[.string t] W fun e w' => e = .returned (.string (s.extract 0 k)) ∧ Below W.heap.size W w') ∧
        leftR L 0 = m ∧ (s.size : Int) - (m : Int) = (k : Int) ∧ k ≤ s.size ∧ (t.size : Int) ≤ most) ∨
      (∃ (e : Nat) (L : ByteArray), textR s 0 most = (⟨#[]⟩, L, e) ∧ e ≠ 0) := by
  rcases scan_cases s with ⟨n, k, hsc, hn, _, _, hks, hk, htk⟩ | ⟨er, hsc, h0, _, _⟩
  · by_cases h1 : most < 0 ∨ most < (n : Int)
    · exact .inr ⟨22, s.extract 0 s.size, by unfold textR; rw [if_neg (by simp), textOf_long hsc h1], by decide⟩
    · by_cases h2 : s.size - k < n
      · exact .inr ⟨20, s.extract 0 s.size, by unfold textR; rw [if_neg (by simp), textOf_short hsc h1 h2], by decide⟩
      · have hz : (s.extract k (k + n)).size = n := by rw [ByteArray.size_extract]; omega
        refine .inl ⟨s.extract k (k + n), s.extract (k + n) s.size, k + n, s.size - (k + n), ?_, fun W => ?_, ?_, by omega, by omega, by rw [hz]; omega⟩
        · unfold textR; rw [if_neg (by simp), textOf_ok hsc h1 h2]
        · have e : strOf (Pk.shL (s.extract k (k + n)).size) ++ s.extract k (k + n) = s.extract 0 (k + n) := by
            apply bn_inj
            rw [hz, bn_append, bn_front, bn_strOf _ (Pk.shL_lt n), bn_extract, ← htk, List.take_add]
            congr 2
            omega
          have := text_any (s.extract k (k + n)) W (by omega)
          rw [e] at this
          exact this
        · unfold leftR
          rw [if_neg (by simp), ByteArray.size_extract]
          omega
  · exact .inr ⟨er, s.extract 0 s.size, by unfold textR; rw [if_neg (by simp), textOf_bad most hsc h0], h0⟩

/-- a fixed number is read, or not -/
theorem part3 (s : ByteArray) (_hs : s.size ≤ 1000000) :
    (∃ (n m : Nat) (L : ByteArray), fixedR s 0 = (n, L, 0) ∧ (∀ W, Calls Try.prog 11 #[.int .u64 (n : Int)] W fun e w' => e = .returned (.string (s.extract 0 8)) ∧ Below W.heap.size W w') ∧
        leftR L 0 = m ∧ (s.size : Int) - 8 = (m : Int) ∧ 8 ≤ s.size) ∨
      (fixedR s 0 = (0, s, 20) ∧ s.size < 8) := by
  by_cases h : s.size < 8
  · exact .inr ⟨by unfold fixedR; rw [if_neg (by simp), if_pos h], h⟩
  · have hl : ((bn s).take 8).length = 8 := by rw [List.length_take, bn_length]; omega
    have hlt : ∀ b ∈ (bn s).take 8, b < 256 := fun b hb => bn_lt s b (List.mem_of_mem_take hb)
    have hn := Pk.fixN_lt ((bn s).take 8) hlt
    rw [hl] at hn
    have hn2 : Pk.fixN ((bn s).take 8) < 18446744073709551616 := by
      have e : (256 : Nat) ^ 8 = 18446744073709551616 := by decide
      omega
    refine .inl ⟨Pk.fixN ((bn s).take 8), s.size - 8, s.extract 8 s.size, ?_, fun W => ?_, ?_, by omega, by omega⟩
    · unfold fixedR; rw [if_neg (by simp), if_neg h]
    · have e : strOf (Pk.fixL (Pk.fixN ((bn s).take 8))) = s.extract 0 8 := bn_inj (by rw [bn_front, Pk.fixL_fixN _ hl hlt, bn_strOf _ hlt])
      have := fixed_any (Pk.fixN ((bn s).take 8) : Nat) W (by omega)
      rw [Int.toNat_natCast, e] at this
      exact this
    · unfold leftR
      rw [if_neg (by simp), ByteArray.size_extract]
      omega

/-- what yields is taken first -/
theorem takeY {P : Program} {md : Region.Mode} {ops : Array Oper} {Q : Exit → Act → World → Prop} {S : World → Prop} {oi : Oper} {fuel : Nat} {listed : Array Bool} {a : Act} {w : World} (i : Nat) (d : Option Tmp) (v : Value) (hi : ops[i]? = some oi) (hd : oi.dst = d)
    (hs : Region.noSelect ops = true) (hf : Region.free md ops listed i = true) (hr : (Region.ready md ops listed).contains i = true)
    (hQ : ∀ c a w, Q (.panic c) (a.put oi.dst v) w → Q (.panic c) a w) (hw : Region.wanted oi (yielded ops a.tmps) = true) (hy : ∀ w, S w → (execOp a.eval oi).run P w = .ok (.value v) w) (hS : S w)
    (h : wpAnyH P md ops Q S fuel (listed.setIfInBounds i true) (a.put d v) w) : wpAnyH P md ops Q S (fuel + 1) listed a w := by
  subst hd
  exact wpAnyH_take hi hs hf hr hQ (Or.inl ⟨hw, hy⟩) hS h
/-- what its guard leaves out is taken first -/
theorem takeN {P : Program} {md : Region.Mode} {ops : Array Oper} {Q : Exit → Act → World → Prop} {S : World → Prop} {oi : Oper} {fuel : Nat} {listed : Array Bool} {a : Act} {w : World} (i : Nat) (d : Option Tmp) (hi : ops[i]? = some oi) (hd : oi.dst = d)
    (hs : Region.noSelect ops = true) (hf : Region.free md ops listed i = true) (hr : (Region.ready md ops listed).contains i = true)
    (hQ : ∀ c a w, Q (.panic c) (a.put oi.dst undef) w → Q (.panic c) a w) (hw : Region.wanted oi (yielded ops a.tmps) = false) (hS : S w)
    (h : wpAnyH P md ops Q S fuel (listed.setIfInBounds i true) (a.put d undef) w) : wpAnyH P md ops Q S (fuel + 1) listed a w := by
  subst hd
  exact wpAnyH_take hi hs hf hr hQ (Or.inr ⟨hw, rfl⟩) hS h

set_option maxRecDepth 10000 in
set_option maxHeartbeats 8000000 in
theorem one_in_ok (s : ByteArray) (most : Int) (W : World) (hs : s.size ≤ 65536) (hm : -9223372036854775808 ≤ most ∧ most ≤ 9223372036854775807) (n3 m3 : Nat) (L3 : ByteArray)
    (r3 : fixedR s 0 = (n3, L3, 0)) (c3 : ∀ W, Calls Try.prog 11 #[.int .u64 (n3 : Int)] W fun e w' => e = .returned (.string (s.extract 0 8)) ∧ Below W.heap.size W w')
    (l3 : leftR L3 0 = m3) (s3 : (s.size : Int) - 8 = (m3 : Int)) (_b3 : 8 ≤ s.size) :
    Calls Try.prog 6 #[.string s, .int .i64 most] W fun e w' => e = .returned (.bool true) ∧ Below W.heap.size W w' := by
  have hz : s.size ≤ 1000000 := by omega
  have i8 : (8 : Int) ≤ (s.size : Int) := by omega
  have hw3 : IntKind.i64.wrap (m3 : Int) = (m3 : Int) := by rw [IntKind.wrap_i64]; omega
  have R3 := hide r3
  have C3 := hide c3
  have E3 := hide l3
  clear r3 c3 l3
  rcases part1 s hz with ⟨n1, k1, m1, L1, r1, c1, l1, s1, b1⟩ | ⟨e1, L1, r1, b1⟩ <;>
  rcases part2 s most hz with ⟨t2, L2, k2, m2, r2, c2, l2, s2, b2, q2⟩ | ⟨e2, L2, r2, b2⟩
  all_goals
    have R1 := hide r1
    have R2 := hide r2
    clear r1 r2
    try (have C1 := hide c1; have E1 := hide l1; clear c1 l1)
    try (have C2 := hide c2; have E2 := hide l2; clear c2 l2)
    try (have f1 : ((e1 : Int) == 0) = false := beq_eq_false_iff_ne.2 (by omega))
    try (have f2 : ((e2 : Int) == 0) = false := beq_eq_false_iff_ne.2 (by omega))
    go_enter Try.func6, Try.ntmps6
    go_wp2_with (first
      | (go_at_call 10; refine (awake_any _).mono ?_; rintro x w0 ⟨rfl, hb0⟩)
      | (go_at_call 17; refine (read_new _ _).mono ?_; rintro x w1 ⟨g, rfl, hg1, hg2, hrd, hb1⟩; have hgW : W.heap.size ≤ g := Nat.le_trans hb0.size hg1; have hb0 := below_then hb0 hb1; clear hb1 hg1 hg2)
      | (go_at_call 22; refine (rshort_any _ 0 s _ hrd hz).mono ?_; rw [unhide R1]; rintro x w1 ⟨rfl, ht⟩; have hb0 := below_told hb0 hb0.size ht hgW; have hrd := ht.2; clear ht)
      | (go_at_call 24; refine (rtext_any _ 0 s _ _ hrd hz hm).mono ?_; rw [unhide R2]; rintro x w1 ⟨rfl, ht⟩; have hb0 := below_told hb0 hb0.size ht hgW; have hrd := ht.2; clear ht)
      | (go_at_call 20; refine (rfixed_any _ 0 s _ hrd hz).mono ?_; rw [unhide R3]; rintro x w1 ⟨rfl, ht⟩; have hb0 := below_told hb0 hb0.size ht hgW; have hrd := ht.2; clear ht)
      | (go_at_call 28; refine (err_any _ _ _ _ hrd).mono ?_; rintro x w1 ⟨rfl, hw⟩; have hw := hw.symm; subst hw)
      | (go_at_call 26; refine (left_any _ _ _ _ hrd).mono ?_; (first | rw [unhide E1] | rw [unhide E2]); rintro x w1 ⟨rfl, hw⟩; have hw := hw.symm; subst hw)
      | (go_at_call 13; refine (unhide C1 _).mono ?_; rintro x w1 ⟨rfl, hb1⟩; have hrd := hrd.below hb1; have hb0 := below_then hb0 hb1; clear hb1)
      | (go_at_call 15; refine (unhide C2 _).mono ?_; rintro x w1 ⟨rfl, hb1⟩; have hrd := hrd.below hb1; have hb0 := below_then hb0 hb1; clear hb1))
    refine wp_region_noPanic ?_
    refine wp_region_held_drew (S := fun w' => Below W.heap.size W w' ∧ Rd w' g L3 0) (by kernel_rfl) ⟨hb0.drew, hrd.drew⟩ (fun hHeld => ?_)
    refine takeY 0 (some 62) ?_ rfl rfl (by kernel_rfl) (by kernel_rfl) (by kernel_rfl) (fun _ _ _ h => h) (by rfl) ?_ hHeld ?_
    rotate_left
    · intro w hSw; go_simp <;> with_reducible rfl
    simp only [Act.put, List.setIfInBounds_toArray, List.set_cons_zero, List.set_cons_succ]
    refine wpAnyH_ready (rs := [1]) (by kernel_rfl) (by simp) ?_
    refine AllReadyH.cons rfl (fun K hK => ?_) AllReadyH.nil
    go_simp
    refine (err_any _ 0 L3 _ hHeld.2).mono ?_
    rintro x w2 ⟨hx, rfl⟩
    have hx' : x = .returned (.int .i64 0) := hx
    subst hx'
    clear hx
    refine hK.out _ _ hHeld (fun hHeld => ?_)
    clear hK K
    try simp only [Act.put, List.setIfInBounds_toArray, List.set_cons_zero, List.set_cons_succ]
    refine takeY 2 (some 64) ?_ rfl rfl (by kernel_rfl) (by kernel_rfl) (by kernel_rfl) (fun _ _ _ h => h) (by rfl) ?_ hHeld ?_
    rotate_left
    · intro w hSw; go_simp <;> with_reducible rfl
    simp only [Act.put, List.setIfInBounds_toArray, List.set_cons_zero, List.set_cons_succ]
    refine takeY 3 (some 65) ?_ rfl rfl (by kernel_rfl) (by kernel_rfl) (by kernel_rfl) (fun _ _ _ h => h) (by rfl) ?_ hHeld ?_
    rotate_left
    · intro w hSw; go_simp <;> with_reducible rfl
    simp only [Act.put, List.setIfInBounds_toArray, List.set_cons_zero, List.set_cons_succ]
    refine takeN 4 (some 66) rfl rfl (by kernel_rfl) (by kernel_rfl) (by kernel_rfl) (fun _ _ _ h => h) (by rfl) hHeld ?_
    simp only [Act.put, List.setIfInBounds_toArray, List.set_cons_zero, List.set_cons_succ]
    refine takeN 5 (some 67) rfl rfl (by kernel_rfl) (by kernel_rfl) (by kernel_rfl) (fun _ _ _ h => h) (by rfl) hHeld ?_
    simp only [Act.put, List.setIfInBounds_toArray, List.set_cons_zero, List.set_cons_succ]
    refine takeN 6 (some 68) rfl rfl (by kernel_rfl) (by kernel_rfl) (by kernel_rfl) (fun _ _ _ h => h) (by rfl) hHeld ?_
    simp only [Act.put, List.setIfInBounds_toArray, List.set_cons_zero, List.set_cons_succ]
    refine takeY 7 (some 69) ?_ rfl rfl (by kernel_rfl) (by kernel_rfl) (by kernel_rfl) (fun _ _ _ h => h) (by rfl) ?_ hHeld ?_
    rotate_left
    · intro w hSw; go_simp <;> with_reducible rfl
    simp only [Act.put, List.setIfInBounds_toArray, List.set_cons_zero, List.set_cons_succ]
    refine takeY 8 (some 70) ?_ rfl rfl (by kernel_rfl) (by kernel_rfl) (by kernel_rfl) (fun _ _ _ h => h) (by rfl) ?_ hHeld ?_
    rotate_left
    · intro w hSw; go_simp <;> with_reducible rfl
    simp only [Act.put, List.setIfInBounds_toArray, List.set_cons_zero, List.set_cons_succ]
    refine takeY 9 (some 71) ?_ rfl rfl (by kernel_rfl) (by kernel_rfl) (by kernel_rfl) (fun _ _ _ h => h) (by rfl) ?_ hHeld ?_
    rotate_left
    · intro w hSw; go_simp <;> with_reducible rfl
    simp only [Act.put, List.setIfInBounds_toArray, List.set_cons_zero, List.set_cons_succ]
    refine takeY 10 (some 72) ?_ rfl rfl (by kernel_rfl) (by kernel_rfl) (by kernel_rfl) (fun _ _ _ h => h) (by rfl) ?_ hHeld ?_
    rotate_left
    · intro w hSw; go_simp <;> with_reducible rfl
    simp only [Act.put, List.setIfInBounds_toArray, List.set_cons_zero, List.set_cons_succ]
    refine takeY 11 (some 73) ?_ rfl rfl (by kernel_rfl) (by kernel_rfl) (by kernel_rfl) (fun _ _ _ h => h) (by rfl) ?_ hHeld ?_
    rotate_left
    · intro w hSw; go_simp <;> with_reducible rfl
    simp only [Act.put, List.setIfInBounds_toArray, List.set_cons_zero, List.set_cons_succ]
    refine takeY 12 (some 74) ?_ rfl rfl (by kernel_rfl) (by kernel_rfl) (by kernel_rfl) (fun _ _ _ h => h) (by rfl) ?_ hHeld ?_
    rotate_left
    · intro w hSw; go_simp <;> with_reducible rfl
    simp only [Act.put, List.setIfInBounds_toArray, List.set_cons_zero, List.set_cons_succ]
    refine takeY 13 (some 75) ?_ rfl rfl (by kernel_rfl) (by kernel_rfl) (by kernel_rfl) (fun _ _ _ h => h) (by rfl) ?_ hHeld ?_
    rotate_left
    · intro w hSw; go_simp <;> with_reducible rfl
    simp only [Act.put, List.setIfInBounds_toArray, List.set_cons_zero, List.set_cons_succ]
    refine takeY 15 (some 77) ?_ rfl rfl (by kernel_rfl) (by kernel_rfl) (by kernel_rfl) (fun _ _ _ h => h) (by rfl) ?_ hHeld ?_
    rotate_left
    · intro w hSw; go_simp <;> with_reducible rfl
    simp only [Act.put, List.setIfInBounds_toArray, List.set_cons_zero, List.set_cons_succ]
    refine takeY 16 (some 78) ?_ rfl rfl (by kernel_rfl) (by kernel_rfl) (by kernel_rfl) (fun _ _ _ h => h) (by rfl) ?_ hHeld ?_
    rotate_left
    · intro w hSw; go_simp <;> with_reducible rfl
    simp only [Act.put, List.setIfInBounds_toArray, List.set_cons_zero, List.set_cons_succ]
    refine wpAnyH_ready (rs := [14]) (by kernel_rfl) (by simp) ?_
    refine AllReadyH.cons rfl (fun K hK => ?_) AllReadyH.nil
    go_simp
    refine (unhide C3 _).mono ?_
    rintro x w3 ⟨rfl, hb3⟩
    refine hK.out _ _ ⟨below_then hHeld.1 hb3, hHeld.2.below hb3⟩ (fun hHeld => ?_)
    clear hK K
    try simp only [Act.put, List.setIfInBounds_toArray, List.set_cons_zero, List.set_cons_succ]
    refine takeY 17 (some 79) ?_ rfl rfl (by kernel_rfl) (by kernel_rfl) (by kernel_rfl) (fun _ _ _ h => h) (by rfl) ?_ hHeld ?_
    rotate_left
    · intro w hSw; go_simp <;> with_reducible rfl
    simp only [Act.put, List.setIfInBounds_toArray, List.set_cons_zero, List.set_cons_succ]
    refine takeY 18 (some 80) ?_ rfl rfl (by kernel_rfl) (by kernel_rfl) (by kernel_rfl) (fun _ _ _ h => h) (by rfl) ?_ hHeld ?_
    rotate_left
    · intro w hSw; go_simp <;> with_reducible rfl
    simp only [Act.put, List.setIfInBounds_toArray, List.set_cons_zero, List.set_cons_succ]
    refine takeY 19 (some 81) ?_ rfl rfl (by kernel_rfl) (by kernel_rfl) (by kernel_rfl) (fun _ _ _ h => h) (by rfl) ?_ hHeld ?_
    rotate_left
    · intro w hSw; go_simp <;> with_reducible rfl
    simp only [Act.put, List.setIfInBounds_toArray, List.set_cons_zero, List.set_cons_succ]
    refine takeY 20 (some 82) ?_ rfl rfl (by kernel_rfl) (by kernel_rfl) (by kernel_rfl) (fun _ _ _ h => h) (by rfl) ?_ hHeld ?_
    rotate_left
    · intro w hSw; go_simp <;> with_reducible rfl
    simp only [Act.put, List.setIfInBounds_toArray, List.set_cons_zero, List.set_cons_succ]
    refine takeY 22 (some 84) ?_ rfl rfl (by kernel_rfl) (by kernel_rfl) (by kernel_rfl) (fun _ _ _ h => h) (by rfl) ?_ hHeld ?_
    rotate_left
    · intro w hSw; go_simp <;> with_reducible rfl
    simp only [Act.put, List.setIfInBounds_toArray, List.set_cons_zero, List.set_cons_succ]
    refine takeY 23 (some 85) ?_ rfl rfl (by kernel_rfl) (by kernel_rfl) (by kernel_rfl) (fun _ _ _ h => h) (by rfl) ?_ hHeld ?_
    rotate_left
    · intro w hSw; go_simp <;> with_reducible rfl
    simp only [Act.put, List.setIfInBounds_toArray, List.set_cons_zero, List.set_cons_succ]
    refine takeY 24 (some 86) ?_ rfl rfl (by kernel_rfl) (by kernel_rfl) (by kernel_rfl) (fun _ _ _ h => h) (by rfl) ?_ hHeld ?_
    rotate_left
    · intro w hSw; go_simp <;> with_reducible rfl
    simp only [Act.put, List.setIfInBounds_toArray, List.set_cons_zero, List.set_cons_succ]
    refine wpAnyH_ready (rs := [21]) (by kernel_rfl) (by simp) ?_
    refine AllReadyH.cons rfl (fun K hK => ?_) AllReadyH.nil
    go_simp
    refine (left_any _ 0 L3 _ hHeld.2).mono ?_
    rw [unhide E3]
    rintro x w4 ⟨rfl, rfl⟩
    refine hK.out _ _ hHeld (fun hHeld => ?_)
    clear hK K
    try simp only [Act.put, List.setIfInBounds_toArray, List.set_cons_zero, List.set_cons_succ]
    refine takeY 25 (some 87) ?_ rfl rfl (by kernel_rfl) (by kernel_rfl) (by kernel_rfl) (fun _ _ _ h => h) (by rfl) ?_ hHeld ?_
    rotate_left
    · intro w hSw; go_simp <;> with_reducible rfl
    simp only [Act.put, List.setIfInBounds_toArray, List.set_cons_zero, List.set_cons_succ]
    refine takeY 26 (some 88) ?_ rfl rfl (by kernel_rfl) (by kernel_rfl) (by kernel_rfl) (fun _ _ _ h => h) (by rfl) ?_ hHeld ?_
    rotate_left
    · intro w hSw; go_simp <;> with_reducible rfl
    simp only [Act.put, List.setIfInBounds_toArray, List.set_cons_zero, List.set_cons_succ]
    refine takeY 27 (some 89) ?_ rfl rfl (by kernel_rfl) (by kernel_rfl) (by kernel_rfl) (fun _ _ _ h => h) (by rfl) ?_ hHeld ?_
    rotate_left
    · intro w hSw; go_simp <;> with_reducible rfl
    simp only [Act.put, List.setIfInBounds_toArray, List.set_cons_zero, List.set_cons_succ]
    refine takeY 28 (some 4) ?_ rfl rfl (by kernel_rfl) (by kernel_rfl) (by kernel_rfl) (fun _ _ _ h => h) (by rfl) ?_ hHeld ?_
    rotate_left
    · intro w hSw; go_simp <;> with_reducible rfl
    simp only [Act.put, List.setIfInBounds_toArray, List.set_cons_zero, List.set_cons_succ]
    refine wpAnyH_done (by kernel_rfl) ?_ _
    refine NoPanic.normal ?_
    go_wp2
    go_ret
    exact ⟨rfl, hHeld.1⟩
end Go.Proofs.Ytnjdkocpfcodfaa
