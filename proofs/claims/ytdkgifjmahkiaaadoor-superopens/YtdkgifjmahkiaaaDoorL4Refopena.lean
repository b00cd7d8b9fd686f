/- What the document's Open does: the same. -/
import Derived.Test.YtdkgifjmahkiaaaDoorL4Open
import Derived.Test.YtdkgifjmahkiaaaDoorL4Refreader
import Derived.WalkSmall
namespace Go.Proofs.YtdkgifjmahkiaaaDoor.L4
open Go.ChangeShapes Go.WideShapes Go.ChangeAt Go.RowKit

theorem or_u32 (a b i : Nat) (ha : a < 2 ^ i) (hb : b * 2 ^ i < 4294967296) (hi : i ≤ 32) : bits .or .u32 (a : Int) ((b * 2 ^ i : Nat) : Int) = ((a + b * 2 ^ i : Nat) : Int) := by
  have h32 : 2 ^ i ≤ 2 ^ 32 := Nat.pow_le_pow_right (by decide) hi
  rw [u32_or_nat a _ (by omega) hb]
  have := Nat.two_pow_add_eq_or_of_lt ha b
  rw [Nat.or_comm, Nat.mul_comm b, ← this, Nat.add_comm]
theorem num_or (a b c d : Nat) (ha : a < 256) (hb : b < 256) (hc : c < 256) (hd : d < 256) :
    bits .or .u32 (bits .or .u32 (bits .or .u32 (a : Int) ((b : Int) * 256)) ((c : Int) * 65536)) ((d : Int) * 16777216) = (Blk.num4 a b c d : Nat) := by
  have e1 := or_u32 a b 8 (by omega) (by omega) (by omega)
  have e2 := or_u32 (a + b * 2 ^ 8) c 16 (by omega) (by omega) (by omega)
  have e3 := or_u32 (a + b * 2 ^ 8 + c * 2 ^ 16) d 24 (by omega) (by omega) (by omega)
  have f1 : (b : Int) * 256 = ((b * 2 ^ 8 : Nat) : Int) := by simp
  have f2 : (c : Int) * 65536 = ((c * 2 ^ 16 : Nat) : Int) := by simp
  have f3 : (d : Int) * 16777216 = ((d * 2 ^ 24 : Nat) : Int) := by simp
  rw [f1, f2, f3, e1, e2, e3]
  rfl
theorem step_zero {S : ByteArray} {n j : Nat} (hz : ∀ q (hq : q < S.size), 13 + n ≤ q → q < j → S[q].toNat = 0) {hj : j < S.size} (h0 : S[j].toNat = 0) : ∀ q (hq : q < S.size), 13 + n ≤ q → q < j + 1 → S[q].toNat = 0 := by
  intro q hq h5 h6
  by_cases e : q = j
  · subst e
    exact h0
  · exact hz q hq h5 (by omega)

set_option maxHeartbeats 400000 in
theorem ropen_size (S : ByteArray) (w : World) (h : ¬ S.size = 1024) :
    Calls Tryd.prog 26 #[.string S] w fun e w' => e = .returned (.tuple #[.agg #[.int .i64 0, .int .i64 0, .string ⟨#[]⟩], .int .i64 32]) ∧ Below w.heap.size w w' := by
  have h1 : ((S.size : Int) == 1024) = false := beq_eq_false_iff_ne.2 (by omega)
  have h2 : ((S.size : Int) != 1024) = true := bne_iff_ne.2 (by omega)
  clear h
  go_enter Tryd.func26, Tryd.ntmps26
  go_wp2
  refine bodyPost_ret (v := .tuple #[.agg #[.int .i64 0, .int .i64 0, .string ⟨#[]⟩], .int .i64 32]) ?_ rfl ⟨rfl, ?_⟩
  · rw [results_cell_tmp rfl]
    go_simp
  · exact (Below.refl _ _).alloc (Nat.le_refl _) _

theorem rfix_step {W w3 : World} (h : Res W w3) (L : ByteArray) (G : Nat) (h8 : 8 ≤ L.size) (hL : L.size ≤ 1000000) (hG : Pk.fixN ((bn L).take 8) = G) :
    Calls Tryd.prog 27 #[.pointer (some ⟨w3.heap.size, 0, none⟩)] (w3.alloc (.cells #[.string L, .int .i64 0] 61)) fun e w' => e = .returned (.int .u64 (G : Int)) ∧ Res W w' := by
  have t := refFixedR_any w3.heap.size 0 L _ (Rm.new w3 L) hL
  have e : fixedR L 0 = (G, L.extract 8 L.size, 0) := by
    unfold fixedR
    rw [if_neg (by simp), if_neg (by omega), hG]
  rw [e] at t
  refine t.mono ?_
  rintro x w' ⟨rfl, ht⟩
  have hA : Res W (w3.alloc (.cells #[.string L, .int .i64 0] 61)) := h.then ((Below.refl _ _).alloc (Nat.le_refl _) _)
  have hlt : W.heap.size < w3.heap.size := (Array.getElem?_eq_some_iff.1 h.2).1
  refine ⟨rfl, hA.1.grown ht.1 hA.1.size (fun k hk => by cases hk; omega), (ht.1.block _ (by simp; omega) (fun e => by have := Option.some.inj e; omega)).trans hA.2⟩

set_option maxRecDepth 10000 in
set_option maxHeartbeats 1000000 in
theorem ropen_sum (S : ByteArray) (w : World) (x0 x1 x2 x3 : Nat) (h : S.size = 1024) (h0 : (S[1020]'(by omega)).toNat = x0) (h1 : (S[1021]'(by omega)).toNat = x1) (h2 : (S[1022]'(by omega)).toNat = x2) (h3 : (S[1023]'(by omega)).toNat = x3)
    (l0 : x0 < 256) (l1 : x1 < 256) (l2 : x2 < 256) (l3 : x3 < 256) (c : Nat) (hc : Crc.sum (bn (S.extract 0 1020)) = c) (hne : ¬ c = Blk.num4 x0 x1 x2 x3) :
    Calls Tryd.prog 26 #[.string S] w fun e w' => e = .returned (.tuple #[.agg #[.int .i64 0, .int .i64 0, .string ⟨#[]⟩], .int .i64 40]) ∧ Below w.heap.size w w' := by
  have hs := fun w' => refSum_any (S.extract 0 1020) w' (by rw [ByteArray.size_extract]; unfold maxLen; omega)
  rw [hc] at hs
  have HS := hide hs
  have hn := num_or x0 x1 x2 x3 l0 l1 l2 l3
  have q0 : (x0 : Int) % 4294967296 = x0 := by omega
  have q1 : (x1 : Int) % 4294967296 = x1 := by omega
  have q2 : (x2 : Int) % 4294967296 = x2 := by omega
  have q3 : (x3 : Int) % 4294967296 = x3 := by omega
  have p1 : (x1 : Int) * 256 % 4294967296 = x1 * 256 := by omega
  have p2 : (x2 : Int) * 65536 % 4294967296 = x2 * 65536 := by omega
  have p3 : (x3 : Int) * 16777216 % 4294967296 = x3 * 16777216 := by omega
  generalize Blk.num4 x0 x1 x2 x3 = N at *
  have b1 : ((c : Int) == (N : Int)) = false := beq_eq_false_iff_ne.2 (by omega)
  have b2 : ((c : Int) != (N : Int)) = true := bne_iff_ne.2 (by omega)
  clear hs hc hne
  go_enter Tryd.func26, Tryd.ntmps26
  go_wp2_with fail
  have HX := Res.new w
  generalize w.alloc (.cells #[.int .i64 0, .int .i64 0, .string ⟨#[]⟩] 33) = w1 at *
  have HX' := hide HX
  clear HX
  go_quiet (fail)
  have HY := hide ((unhide HX').then (below_drewN (Below.refl _ w1) nq))
  clear HX'
  generalize w1.drewN nq = w2 at *
  obtain ⟨c0, c1, c2, cf⟩ := (unhide HY).cells
  go_wp2_with (go_at_call 23; refine (unhide HS _).mono ?_; rintro e w3 ⟨rfl, hw⟩; have hw := hw.symm; subst hw)
  refine bodyPost_ret (v := .tuple #[.agg #[.int .i64 0, .int .i64 0, .string ⟨#[]⟩], .int .i64 40]) ?_ rfl ⟨rfl, ?_⟩
  · rw [results_cell_tmp rfl]
    go_simp
  · exact (unhide HY).set _ _ _
set_option maxRecDepth 10000 in
set_option maxHeartbeats 2000000 in
theorem ropen_prefix (S : ByteArray) (w : World) (x0 x1 x2 x3 y3 y4 n G : Nat) (h : S.size = 1024) (h0 : (S[1020]'(by omega)).toNat = x0) (h1 : (S[1021]'(by omega)).toNat = x1) (h2 : (S[1022]'(by omega)).toNat = x2) (h3 : (S[1023]'(by omega)).toNat = x3)
    (l0 : x0 < 256) (l1 : x1 < 256) (l2 : x2 < 256) (l3 : x3 < 256) (hc : Crc.sum (bn (S.extract 0 1020)) = Blk.num4 x0 x1 x2 x3)
    (g3 : (S[3]'(by omega)).toNat = y3) (g4 : (S[4]'(by omega)).toNat = y4) (k3 : y3 < 256) (k4 : y4 < 256) (hn : y3 * 256 + y4 = n) (hG : Pk.fixN ((bn (S.extract 5 13)).take 8) = G) (A : ByteArray) (hA : S.extract 0 2 = A) (hp : ¬ A = ⟨#[67, 80]⟩) :
    Calls Tryd.prog 26 #[.string S] w fun e w' => e = .returned (.tuple #[.agg #[.int .i64 0, .int .i64 0, .string ⟨#[]⟩], .int .i64 21]) ∧ Below w.heap.size w w' := by
  have hs := fun w' => refSum_any (S.extract 0 1020) w' (by rw [ByteArray.size_extract]; unfold maxLen; omega)
  rw [hc] at hs
  have HS := hide hs
  have hnn := num_or x0 x1 x2 x3 l0 l1 l2 l3
  have q0 : (x0 : Int) % 4294967296 = x0 := by omega
  have q1 : (x1 : Int) % 4294967296 = x1 := by omega
  have q2 : (x2 : Int) % 4294967296 = x2 := by omega
  have q3 : (x3 : Int) % 4294967296 = x3 := by omega
  have p1 : (x1 : Int) * 256 % 4294967296 = x1 * 256 := by omega
  have p2 : (x2 : Int) * 65536 % 4294967296 = x2 * 65536 := by omega
  have p3 : (x3 : Int) * 16777216 % 4294967296 = x3 * 16777216 := by omega
  generalize Blk.num4 x0 x1 x2 x3 = N at *
  have ho := or_i64 y3 y4 k3 k4
  rw [hn] at ho
  have hv : (y3 : Int) * 256 + (y4 : Int) = (n : Int) := by omega
  have HG := hide (fun w' (hr : Res w w') => rfix_step hr (S.extract 5 13) G (by rw [ByteArray.size_extract]; omega) (by rw [ByteArray.size_extract]; omega) hG)
  clear hs hc hG hn
  have hq1 := str_ne hp
  have hq2 : (A.toList == [67, 80]) = false := by
    have e : (⟨#[67, 80]⟩ : ByteArray).toList = [67, 80] := by rw [ByteArray.toList_eq]
    rw [← e]
    exact hq1
  clear hp
  go_enter Tryd.func26, Tryd.ntmps26
  go_wp2_with fail
  have HX := Res.new w
  generalize w.alloc (.cells #[.int .i64 0, .int .i64 0, .string ⟨#[]⟩] 33) = w1 at *
  have HX' := hide HX
  clear HX
  go_quiet (fail)
  have HY := hide ((unhide HX').then (below_drewN (Below.refl _ w1) nq))
  clear HX'
  generalize w1.drewN nq = w2 at *
  go_wp2_with (go_at_call 23; refine (unhide HS _).mono ?_; rintro e w3 ⟨rfl, hw⟩; have hw := hw.symm; subst hw)
  go_quiet (fail)
  have HZ := hide ((unhide HY).then (below_drewN (Below.refl _ w2) nq))
  clear HY
  generalize w2.drewN nq = w3 at *
  clear hnn q0 q1 q2 q3 p1 p2 p3 hv ho h0 h1 h2 h3
  go_wp2_with (go_at_call 27; refine (unhide HG _ (unhide HZ)).mono ?_; rintro e w4 ⟨rfl, h4⟩; have H4 := hide h4; obtain ⟨c0, c1, c2, cf⟩ := h4.cells; clear h4)
  refine bodyPost_ret (v := .tuple #[.agg #[.int .i64 0, .int .i64 0, .string ⟨#[]⟩], .int .i64 21]) ?_ rfl ⟨rfl, ?_⟩
  · rw [results_cell_tmp rfl]
    go_simp
  · exact (unhide H4).set _ _ _

set_option maxRecDepth 10000 in
set_option maxHeartbeats 2000000 in
theorem ropen_long (S : ByteArray) (w : World) (x0 x1 x2 x3 y3 y4 n G : Nat) (h : S.size = 1024) (h0 : (S[1020]'(by omega)).toNat = x0) (h1 : (S[1021]'(by omega)).toNat = x1) (h2 : (S[1022]'(by omega)).toNat = x2) (h3 : (S[1023]'(by omega)).toNat = x3)
    (l0 : x0 < 256) (l1 : x1 < 256) (l2 : x2 < 256) (l3 : x3 < 256) (hc : Crc.sum (bn (S.extract 0 1020)) = Blk.num4 x0 x1 x2 x3)
    (g3 : (S[3]'(by omega)).toNat = y3) (g4 : (S[4]'(by omega)).toNat = y4) (k3 : y3 < 256) (k4 : y4 < 256) (hn : y3 * 256 + y4 = n) (hG : Pk.fixN ((bn (S.extract 5 13)).take 8) = G) (hA : S.extract 0 2 = ⟨#[67, 80]⟩) (hn7 : 1007 < n) :
    Calls Tryd.prog 26 #[.string S] w fun e w' => e = .returned (.tuple #[.agg #[.int .i64 0, .int .i64 0, .string ⟨#[]⟩], .int .i64 21]) ∧ Below w.heap.size w w' := by
  have hs := fun w' => refSum_any (S.extract 0 1020) w' (by rw [ByteArray.size_extract]; unfold maxLen; omega)
  rw [hc] at hs
  have HS := hide hs
  have hnn := num_or x0 x1 x2 x3 l0 l1 l2 l3
  have q0 : (x0 : Int) % 4294967296 = x0 := by omega
  have q1 : (x1 : Int) % 4294967296 = x1 := by omega
  have q2 : (x2 : Int) % 4294967296 = x2 := by omega
  have q3 : (x3 : Int) % 4294967296 = x3 := by omega
  have p1 : (x1 : Int) * 256 % 4294967296 = x1 * 256 := by omega
  have p2 : (x2 : Int) * 65536 % 4294967296 = x2 * 65536 := by omega
  have p3 : (x3 : Int) * 16777216 % 4294967296 = x3 * 16777216 := by omega
  generalize Blk.num4 x0 x1 x2 x3 = N at *
  have ho := or_i64 y3 y4 k3 k4
  rw [hn] at ho
  have hv : (y3 : Int) * 256 + (y4 : Int) = (n : Int) := by omega
  have HG := hide (fun w' (hr : Res w w') => rfix_step hr (S.extract 5 13) G (by rw [ByteArray.size_extract]; omega) (by rw [ByteArray.size_extract]; omega) hG)
  clear hs hc hG hn
  have i1 : (1007 : Int) < (n : Int) := by omega
  go_enter Tryd.func26, Tryd.ntmps26
  go_wp2_with fail
  have HX := Res.new w
  generalize w.alloc (.cells #[.int .i64 0, .int .i64 0, .string ⟨#[]⟩] 33) = w1 at *
  have HX' := hide HX
  clear HX
  go_quiet (fail)
  have HY := hide ((unhide HX').then (below_drewN (Below.refl _ w1) nq))
  clear HX'
  generalize w1.drewN nq = w2 at *
  go_wp2_with (go_at_call 23; refine (unhide HS _).mono ?_; rintro e w3 ⟨rfl, hw⟩; have hw := hw.symm; subst hw)
  go_quiet (fail)
  have HZ := hide ((unhide HY).then (below_drewN (Below.refl _ w2) nq))
  clear HY
  generalize w2.drewN nq = w3 at *
  clear hnn q0 q1 q2 q3 p1 p2 p3 hv ho h0 h1 h2 h3
  go_wp2_with (go_at_call 27; refine (unhide HG _ (unhide HZ)).mono ?_; rintro e w4 ⟨rfl, h4⟩; have H4 := hide h4; obtain ⟨c0, c1, c2, cf⟩ := h4.cells; clear h4)
  refine bodyPost_ret (v := .tuple #[.agg #[.int .i64 0, .int .i64 0, .string ⟨#[]⟩], .int .i64 21]) ?_ rfl ⟨rfl, ?_⟩
  · rw [results_cell_tmp rfl]
    go_simp
  · exact (unhide H4).set _ _ _

set_option maxRecDepth 10000 in
set_option maxHeartbeats 2000000 in
theorem ropen_gen (S : ByteArray) (w : World) (x0 x1 x2 x3 y3 y4 n G : Nat) (h : S.size = 1024) (h0 : (S[1020]'(by omega)).toNat = x0) (h1 : (S[1021]'(by omega)).toNat = x1) (h2 : (S[1022]'(by omega)).toNat = x2) (h3 : (S[1023]'(by omega)).toNat = x3)
    (l0 : x0 < 256) (l1 : x1 < 256) (l2 : x2 < 256) (l3 : x3 < 256) (hc : Crc.sum (bn (S.extract 0 1020)) = Blk.num4 x0 x1 x2 x3)
    (g3 : (S[3]'(by omega)).toNat = y3) (g4 : (S[4]'(by omega)).toNat = y4) (k3 : y3 < 256) (k4 : y4 < 256) (hn : y3 * 256 + y4 = n) (hG : Pk.fixN ((bn (S.extract 5 13)).take 8) = G) (hA : S.extract 0 2 = ⟨#[67, 80]⟩) (hn7 : n ≤ 1007) (hg : 1152921504606846976 < G) :
    Calls Tryd.prog 26 #[.string S] w fun e w' => e = .returned (.tuple #[.agg #[.int .i64 0, .int .i64 0, .string ⟨#[]⟩], .int .i64 21]) ∧ Below w.heap.size w w' := by
  have hs := fun w' => refSum_any (S.extract 0 1020) w' (by rw [ByteArray.size_extract]; unfold maxLen; omega)
  rw [hc] at hs
  have HS := hide hs
  have hnn := num_or x0 x1 x2 x3 l0 l1 l2 l3
  have q0 : (x0 : Int) % 4294967296 = x0 := by omega
  have q1 : (x1 : Int) % 4294967296 = x1 := by omega
  have q2 : (x2 : Int) % 4294967296 = x2 := by omega
  have q3 : (x3 : Int) % 4294967296 = x3 := by omega
  have p1 : (x1 : Int) * 256 % 4294967296 = x1 * 256 := by omega
  have p2 : (x2 : Int) * 65536 % 4294967296 = x2 * 65536 := by omega
  have p3 : (x3 : Int) * 16777216 % 4294967296 = x3 * 16777216 := by omega
  generalize Blk.num4 x0 x1 x2 x3 = N at *
  have ho := or_i64 y3 y4 k3 k4
  rw [hn] at ho
  have hv : (y3 : Int) * 256 + (y4 : Int) = (n : Int) := by omega
  have HG := hide (fun w' (hr : Res w w') => rfix_step hr (S.extract 5 13) G (by rw [ByteArray.size_extract]; omega) (by rw [ByteArray.size_extract]; omega) hG)
  clear hs hc hG hn
  have i1 : ¬ (1007 : Int) < (n : Int) := by omega
  have i2 : (1152921504606846976 : Int) < (G : Int) := by omega
  go_enter Tryd.func26, Tryd.ntmps26
  go_wp2_with fail
  have HX := Res.new w
  generalize w.alloc (.cells #[.int .i64 0, .int .i64 0, .string ⟨#[]⟩] 33) = w1 at *
  have HX' := hide HX
  clear HX
  go_quiet (fail)
  have HY := hide ((unhide HX').then (below_drewN (Below.refl _ w1) nq))
  clear HX'
  generalize w1.drewN nq = w2 at *
  go_wp2_with (go_at_call 23; refine (unhide HS _).mono ?_; rintro e w3 ⟨rfl, hw⟩; have hw := hw.symm; subst hw)
  go_quiet (fail)
  have HZ := hide ((unhide HY).then (below_drewN (Below.refl _ w2) nq))
  clear HY
  generalize w2.drewN nq = w3 at *
  clear hnn q0 q1 q2 q3 p1 p2 p3 hv ho h0 h1 h2 h3
  go_wp2_with (go_at_call 27; refine (unhide HG _ (unhide HZ)).mono ?_; rintro e w4 ⟨rfl, h4⟩; have H4 := hide h4; obtain ⟨c0, c1, c2, cf⟩ := h4.cells; clear h4)
  refine bodyPost_ret (v := .tuple #[.agg #[.int .i64 0, .int .i64 0, .string ⟨#[]⟩], .int .i64 21]) ?_ rfl ⟨rfl, ?_⟩
  · rw [results_cell_tmp rfl]
    go_simp
  · exact (unhide H4).set _ _ _

set_option maxRecDepth 10000 in
set_option maxHeartbeats 2000000 in
theorem ropen_loop (S : ByteArray) (w : World) (x0 x1 x2 x3 y3 y4 n G : Nat) (h : S.size = 1024) (h0 : (S[1020]'(by omega)).toNat = x0) (h1 : (S[1021]'(by omega)).toNat = x1) (h2 : (S[1022]'(by omega)).toNat = x2) (h3 : (S[1023]'(by omega)).toNat = x3)
    (l0 : x0 < 256) (l1 : x1 < 256) (l2 : x2 < 256) (l3 : x3 < 256) (hc : Crc.sum (bn (S.extract 0 1020)) = Blk.num4 x0 x1 x2 x3)
    (g3 : (S[3]'(by omega)).toNat = y3) (g4 : (S[4]'(by omega)).toNat = y4) (k3 : y3 < 256) (k4 : y4 < 256) (hn : y3 * 256 + y4 = n) (hG : Pk.fixN ((bn (S.extract 5 13)).take 8) = G) (y2 : Nat) (k2 : y2 < 256) (T : Int × Int × ByteArray × Nat) (g2 : (S[2]'(by omega)).toNat = y2) (hA : S.extract 0 2 = ⟨#[67, 80]⟩) (hn7 : n ≤ 1007) (hg : G ≤ 1152921504606846976)
    (hb : ∀ j (hj : j < S.size), 13 + n ≤ j → j < 1020 → 0 < S[j].toNat → T = (0, 0, ⟨#[]⟩, 21)) (hok : (∀ j (hj : j < S.size), 13 + n ≤ j → j < 1020 → S[j].toNat = 0) → T = ((y2 : Int), (G : Int), S.extract 13 (13 + n), 0)) :
    Calls Tryd.prog 26 #[.string S] w fun e w' => e = .returned (opened T) ∧ Below w.heap.size w w' := by
  have hs := fun w' => refSum_any (S.extract 0 1020) w' (by rw [ByteArray.size_extract]; unfold maxLen; omega)
  rw [hc] at hs
  have HS := hide hs
  have hnn := num_or x0 x1 x2 x3 l0 l1 l2 l3
  have q0 : (x0 : Int) % 4294967296 = x0 := by omega
  have q1 : (x1 : Int) % 4294967296 = x1 := by omega
  have q2 : (x2 : Int) % 4294967296 = x2 := by omega
  have q3 : (x3 : Int) % 4294967296 = x3 := by omega
  have p1 : (x1 : Int) * 256 % 4294967296 = x1 * 256 := by omega
  have p2 : (x2 : Int) * 65536 % 4294967296 = x2 * 65536 := by omega
  have p3 : (x3 : Int) * 16777216 % 4294967296 = x3 * 16777216 := by omega
  generalize Blk.num4 x0 x1 x2 x3 = N at *
  have ho := or_i64 y3 y4 k3 k4
  rw [hn] at ho
  have hv : (y3 : Int) * 256 + (y4 : Int) = (n : Int) := by omega
  have HG := hide (fun w' (hr : Res w w') => rfix_step hr (S.extract 5 13) G (by rw [ByteArray.size_extract]; omega) (by rw [ByteArray.size_extract]; omega) hG)
  clear hs hc hG hn
  have i1 : ¬ (1007 : Int) < (n : Int) := by omega
  have i2 : ¬ (1152921504606846976 : Int) < (G : Int) := by omega
  have HB := hide hb
  have HO := hide hok
  clear hb hok
  go_enter Tryd.func26, Tryd.ntmps26
  go_wp2_with fail
  have HX := Res.new w
  generalize w.alloc (.cells #[.int .i64 0, .int .i64 0, .string ⟨#[]⟩] 33) = w1 at *
  have HX' := hide HX
  clear HX
  go_quiet (fail)
  have HY := hide ((unhide HX').then (below_drewN (Below.refl _ w1) nq))
  clear HX'
  generalize w1.drewN nq = w2 at *
  go_wp2_with (go_at_call 23; refine (unhide HS _).mono ?_; rintro e w3 ⟨rfl, hw⟩; have hw := hw.symm; subst hw)
  go_quiet (fail)
  have HZ := hide ((unhide HY).then (below_drewN (Below.refl _ w2) nq))
  clear HY
  generalize w2.drewN nq = w3 at *
  clear hnn q0 q1 q2 q3 p1 p2 p3 hv ho h0 h1 h2 h3
  go_wp2_with (go_at_call 27; refine (unhide HG _ (unhide HZ)).mono ?_; rintro e w4 ⟨rfl, h4⟩; have H4 := hide h4; obtain ⟨c0, c1, c2, cf⟩ := h4.cells; clear h4)
  go_loop [8] (fun i => ∃ j : Nat, 13 + n ≤ j ∧ j ≤ 1020 ∧ i = .int .i64 j ∧ ∀ q (hq : q < S.size), 13 + n ≤ q → q < j → S[q].toNat = 0) (fun i => 1020 - (intOf i).toNat)
  case atStart => exact ⟨13 + n, Nat.le_refl _, by omega, by go_num, fun q _ h5 h6 => absurd h6 (by omega)⟩
  case round =>
    obtain ⟨j, hj1, hj2, rfl, hz⟩ := hrel
    have HQ := hide hz
    clear hz
    by_cases hlt : j < 1020
    · have hjs : j < S.size := by omega
      have hb256 : (S[j].toNat : Int) < 256 := by have := S[j].toNat_lt; omega
      by_cases h0 : 0 < S[j].toNat
      · have HE := hide (unhide HB j hjs hj1 hlt h0)
        have e1 : ((S[j].toNat : Int) == 0) = false := beq_eq_false_iff_ne.2 (by omega)
        have e2 : ((S[j].toNat : Int) != 0) = true := bne_iff_ne.2 (by omega)
        clear HB HO HQ
        go_wp2
        refine bodyPost_ret (v := opened T) ?_ rfl ⟨rfl, (unhide H4).set _ _ _⟩
        rw [unhide HE, results_cell_tmp rfl]
        go_simp
        rfl
      · have h0' : S[j].toNat = 0 := by omega
        have HE := hide (step_zero (unhide HQ) h0')
        clear h0 HB HO HQ
        go_wp2
        go_round
        case rel => exact ⟨j + 1, by omega, by omega, by go_num, unhide HE⟩
        case measure => simp [intOf]; omega
    · have hj : j = 1020 := by omega
      have HE := hide (unhide HO (fun q hq h5 h6 => unhide HQ q hq h5 (by omega)))
      subst hj
      clear HB HO HQ
      have i5 : IntKind.i64.wrap (G : Int) = (G : Int) := by rw [IntKind.wrap_i64]; omega
      have i6 : (13 : Int) + (n : Int) ≤ 1024 := by omega
      have i7 : (13 : Int) ≤ 13 + (n : Int) := by omega
      go_wp2_with fail
      go_region
      all_goals go_wp2
      all_goals refine bodyPost_ret (v := opened T) ?_ rfl ⟨rfl, ?_⟩
      · rw [unhide HE, results_cell_tmp rfl]
        go_simp
        rfl
      · exact ((unhide H4).set _ _ _).drew

end Go.Proofs.YtdkgifjmahkiaaaDoor.L4
