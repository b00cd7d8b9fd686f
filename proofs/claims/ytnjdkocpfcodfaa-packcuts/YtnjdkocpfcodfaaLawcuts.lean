/- The walk of the law PackCuts. -/
import Derived.Test.YtnjdkocpfcodfaaCuts
import Derived.Deep.RegionHeld3
namespace Go.Proofs.Ytnjdkocpfcodfaa
open Go.ChangeShapes Go.WideShapes Go.ChangeAt Go.RowKit

/-- three readers of one's own -/
def Three (W w : World) (ga : Nat) (La : ByteArray) (ea gb : Nat) (Lb : ByteArray) (eb gc : Nat) (Lc : ByteArray) (ec : Nat) : Prop :=
  Below W.heap.size W w ∧ Rd w ga La ea ∧ Rd w gb Lb eb ∧ Rd w gc Lc ec ∧ ga ≠ gb ∧ ga ≠ gc ∧ gb ≠ gc ∧ W.heap.size ≤ ga ∧ W.heap.size ≤ gb ∧ W.heap.size ≤ gc
theorem Three.stepA {W w w' : World} {ga : Nat} {La : ByteArray} {ea gb : Nat} {Lb : ByteArray} {eb gc : Nat} {Lc : ByteArray} {ec : Nat} (h : Three W w ga La ea gb Lb eb gc Lc ec) {L : ByteArray} {e : Nat} (t : Told w w' ga L e) : Three W w' ga L e gb Lb eb gc Lc ec := by
  obtain ⟨h1, h2, h3, h4, h5, h6, h7, h8, h9, h10⟩ := h
  exact ⟨below_told h1 h1.size t h8, t.2, h3.other t.1 h5.symm, h4.other t.1 h6.symm, h5, h6, h7, h8, h9, h10⟩
theorem Three.stepB {W w w' : World} {ga : Nat} {La : ByteArray} {ea gb : Nat} {Lb : ByteArray} {eb gc : Nat} {Lc : ByteArray} {ec : Nat} (h : Three W w ga La ea gb Lb eb gc Lc ec) {L : ByteArray} {e : Nat} (t : Told w w' gb L e) : Three W w' ga La ea gb L e gc Lc ec := by
  obtain ⟨h1, h2, h3, h4, h5, h6, h7, h8, h9, h10⟩ := h
  exact ⟨below_told h1 h1.size t h9, h2.other t.1 h5, t.2, h4.other t.1 h7.symm, h5, h6, h7, h8, h9, h10⟩
theorem Three.stepC {W w w' : World} {ga : Nat} {La : ByteArray} {ea gb : Nat} {Lb : ByteArray} {eb gc : Nat} {Lc : ByteArray} {ec : Nat} (h : Three W w ga La ea gb Lb eb gc Lc ec) {L : ByteArray} {e : Nat} (t : Told w w' gc L e) : Three W w' ga La ea gb Lb eb gc L e := by
  obtain ⟨h1, h2, h3, h4, h5, h6, h7, h8, h9, h10⟩ := h
  exact ⟨below_told h1 h1.size t h10, h2.other t.1 h6, h3.other t.1 h7, t.2, h5, h6, h7, h8, h9, h10⟩
theorem Three.mk {W w w1 w2 w3 : World} {ga : Nat} {La : ByteArray} {gb : Nat} {Lb : ByteArray} {gc : Nat} {Lc : ByteArray} (h : Below W.heap.size W w) (hs : w.drew.heap.size ≤ ga) (ha : Rd w1 ga La 0) (hsb : w1.heap.size ≤ gb) (hb : Rd w2 gb Lb 0) (k2 : Below w1.heap.size w1 w2)
    (hsc : w2.heap.size ≤ gc) (hc : Rd w3 gc Lc 0) (k3 : Below w2.heap.size w2 w3) (hw : Below W.heap.size W w3) : Three W w3 ga La 0 gb Lb 0 gc Lc 0 := by
  have a1 := ha.lt
  have b1 := hb.lt
  have z0 := h.size
  have z1 : w.drew.heap.size = w.heap.size := rfl
  have z2 := k2.size
  exact ⟨hw, (ha.below k2).below k3, hb.below k3, hc, by omega, by omega, by omega, by omega, by omega, by omega⟩

set_option maxRecDepth 10000 in
set_option maxHeartbeats 2000000 in
theorem cuts_core (n : Int) (C : Nat) (s Sa Sb Sc : ByteArray) (ja jb jc zb zc : Nat) (W : World) (hC : C ≤ 9223372036854775807) (hs : s.size ≤ 4096)
    (hF : ∀ W, Calls Try.prog 11 #[.int .u64 n] W fun e w' => e = .returned (.string Sa) ∧ Below W.heap.size W w')
    (hS : ∀ W, Calls Try.prog 13 #[.int .u64 n] W fun e w' => e = .returned (.string Sb) ∧ Below W.heap.size W w')
    (hT : ∀ W, Calls Try.prog 15 #[.string s] W fun e w' => e = .returned (.string Sc) ∧ Below W.heap.size W w')
    (hza : Sa.size = 8) (hzb : Sb.size = zb) (hzc : Sc.size = zc) (eja : (C : Int) % 8 = (ja : Int)) (ejb : (C : Int) % (zb : Int) = (jb : Int)) (ejc : (C : Int) % (zc : Int) = (jc : Int))
    (_hja : ja < 8) (hjb : jb < zb) (hjc : jc < zc) (hzb1 : zb ≤ 10) (hzc1 : zc ≤ 5000)
    (hA : fixedR (Sa.extract 0 ja) 0 = (0, Sa.extract 0 ja, 20)) (hB : shortR (Sb.extract 0 jb) 0 = (0, Sb.extract 0 jb, 20)) (hX : textR (Sc.extract 0 jc) 0 1048576 = (⟨#[]⟩, Sc.extract 0 jc, 20)) :
    Calls Try.prog 8 #[.int .u64 n, .string s, .int .i64 (C : Int)] W fun e w' => e = .returned (.bool true) ∧ Below W.heap.size W w' := by
  have HF := hide hF
  have HS := hide hS
  have HT := hide hT
  have HA := hide hA
  have HB := hide hB
  have HX := hide hX
  have za : (Sa.extract 0 ja).size ≤ 1000000 := by rw [size_front _ _ (by omega)]; omega
  have zb' : (Sb.extract 0 jb).size ≤ 1000000 := by rw [size_front _ _ (by omega)]; omega
  have zc' : (Sc.extract 0 jc).size ≤ 1000000 := by rw [size_front _ _ (by omega)]; omega
  have ZA := hide za
  have ZB := hide zb'
  have ZC := hide zc'
  have ta : (C : Int).tmod (zb : Int) = (jb : Int) := by rw [Int.tmod_eq_emod_of_nonneg (by omega)]; exact ejb
  have tb : (C : Int).tmod (zc : Int) = (jc : Int) := by rw [Int.tmod_eq_emod_of_nonneg (by omega)]; exact ejc
  have tc : (C : Int).tmod 8 = (ja : Int) := by rw [Int.tmod_eq_emod_of_nonneg (by omega)]; exact eja
  have n6 : ¬ zb = 0 := by omega
  have n7 : ¬ zc = 0 := by omega
  have i0 : (0 : Int) ≤ (ja : Int) := by omega
  have i1 : (0 : Int) ≤ (jb : Int) := by omega
  have i2 : (0 : Int) ≤ (jc : Int) := by omega
  have i3 : (ja : Int) ≤ 8 := by omega
  have i4 : (jb : Int) ≤ (zb : Int) := by omega
  have i5 : (jc : Int) ≤ (zc : Int) := by omega
  have i6 : ¬ (zb : Int) = 0 := by omega
  have i7 : ¬ (zc : Int) = 0 := by omega
  have i8 : ((zb : Int) == 0) = false := beq_eq_false_iff_ne.2 i6
  have i9 : ((zc : Int) == 0) = false := beq_eq_false_iff_ne.2 i7
  clear hF hS hT hA hB hX za zb' zc'
  go_enter Try.func8, Try.ntmps8
  go_wp2_with (first
    | (go_at_call 10; refine (awake_any _).mono ?_; rintro x w0 ⟨rfl, hb0⟩)
    | (go_at_call 11; refine (unhide HF _).mono ?_; rintro x w1 ⟨rfl, hb1⟩; have hb0 := below_then hb0 hb1; clear hb1)
    | (go_at_call 13; refine (unhide HS _).mono ?_; rintro x w2 ⟨rfl, hb1⟩; have hb0 := below_then hb0 hb1; clear hb1)
    | (go_at_call 15; refine (unhide HT _).mono ?_; rintro x w3 ⟨rfl, hb1⟩; have hb0 := below_then hb0 hb1; clear hb1))
  go_region_held3 (fun w' => Below W.heap.size W w')
    (first | assumption | exact Below.drew ‹_› | exact below_then ‹_› ‹_›)
    (first
      | (go_at_call_of 17 (Sa.extract 0 ja); refine (read_new _ _).mono ?_; rintro x w4 ⟨ga, rfl, hga1, hga2, hra, hba⟩)
      | (go_at_call_of 17 (Sb.extract 0 jb); refine (read_new _ _).mono ?_; rintro x w5 ⟨gb, rfl, hgb1, hgb2, hrb, hbb⟩)
      | (go_at_call_of 17 (Sc.extract 0 jc); refine (read_new _ _).mono ?_; rintro x w6 ⟨gc, rfl, hgc1, hgc2, hrc, hbc⟩))
  have h3 := Three.mk hb0 hga1 hra hgb1 hrb hbb hgc1 hrc hbc ‹_›
  clear hga1 hga2 hra hba hgb1 hgb2 hrb hbb hgc1 hgc2 hrc hbc eja ejb ejc ta tb tc
  generalize Sa.extract 0 ja = La at *
  generalize Sb.extract 0 jb = Lb at *
  generalize Sc.extract 0 jc = Lc at *
  go_wp2_with (first
    | (go_at_call_of 20 ga; refine (rfixed_any _ 0 La _ h3.2.1 (unhide ZA)).mono ?_; rw [unhide HA]; rintro x w7 ⟨rfl, ht⟩; have h3 := h3.stepA ht; clear ht)
    | (go_at_call_of 28 ga; refine (err_any _ 20 La _ h3.2.1).mono ?_; rintro x w7 ⟨rfl, rfl⟩)
    | (go_at_call_of 22 gb; refine (rshort_any _ 0 Lb _ h3.2.2.1 (unhide ZB)).mono ?_; rw [unhide HB]; rintro x w7 ⟨rfl, ht⟩; have h3 := h3.stepB ht; clear ht)
    | (go_at_call_of 28 gb; refine (err_any _ 20 Lb _ h3.2.2.1).mono ?_; rintro x w7 ⟨rfl, rfl⟩)
    | (go_at_call_of 24 gc; refine (rtext_any _ 0 Lc _ _ h3.2.2.2.1 (unhide ZC) (by omega)).mono ?_; rw [unhide HX]; rintro x w7 ⟨rfl, ht⟩; have h3 := h3.stepC ht; clear ht)
    | (go_at_call_of 28 gc; refine (err_any _ 20 Lc _ h3.2.2.2.1).mono ?_; rintro x w7 ⟨rfl, rfl⟩)
    | (go_at_call_of 18 ga; refine (byte_any _ 20 La _ h3.2.1 (unhide ZA)).mono ?_; rintro x w7 ⟨hx, ht⟩; have hx' : x = .returned (.int .u8 0) := hx; subst hx'; clear hx; have h3 := h3.stepA ht; clear ht)
    | (go_at_call_of 26 ga; refine (left_any _ 20 La _ h3.2.1).mono ?_; rintro x w7 ⟨hx, rfl⟩; have hx' : x = .returned (.int .i64 0) := hx; subst hx'; clear hx)
    | (go_at_call_of 20 gb; refine (rfixed_any _ 20 Lb _ h3.2.2.1 (unhide ZB)).mono ?_; rintro x w7 ⟨hx, ht⟩; have hx' : x = .returned (.int .u64 0) := hx; subst hx'; clear hx; have h3 := h3.stepB ht; clear ht)
    | (go_at_call_of 29 gc; refine (end_any _ 20 Lc _ h3.2.2.2.1 (unhide ZC)).mono ?_; rintro x w7 ⟨hx, rfl⟩; have hx' : x = .returned (.int .i64 20) := hx; subst hx'; clear hx))
  go_ret
  exact ⟨rfl, h3.1⟩

set_option maxRecDepth 10000 in
set_option maxHeartbeats 1000000 in
theorem cuts_out (n c : Int) (s : ByteArray) (W : World) (hs : s.size ≤ maxLen) (h : 4096 < s.size ∨ c < 0) :
    Calls Try.prog 8 #[.int .u64 n, .string s, .int .i64 c] W fun e w' => e = .returned (.bool true) ∧ Below W.heap.size W w' := by
  unfold maxLen at hs
  by_cases h1 : 4096 < s.size
  · clear h
    go_enter Try.func8, Try.ntmps8
    go_wp2_with (go_at_call 10; refine (awake_any _).mono ?_; rintro x w0 ⟨rfl, hb0⟩)
    go_ret
    exact ⟨rfl, hb0⟩
  · have h2 : c < 0 := by omega
    clear h
    go_enter Try.func8, Try.ntmps8
    go_wp2_with (go_at_call 10; refine (awake_any _).mono ?_; rintro x w0 ⟨rfl, hb0⟩)
    go_ret
    exact ⟨rfl, hb0⟩

theorem cuts_walk (n : Int) (s : ByteArray) (c : Int) (W : World) (hn : 0 ≤ n ∧ n < 18446744073709551616) (hs : s.size ≤ maxLen) (hc : -9223372036854775808 ≤ c ∧ c ≤ 9223372036854775807) :
    Calls Try.prog 8 #[.int .u64 n, .string s, .int .i64 c] W fun e w' => e = .returned (.bool true) ∧ Below W.heap.size W w' := by
  by_cases h : 4096 < s.size ∨ c < 0
  · exact cuts_out n c s W hs h
  · obtain ⟨C, rfl⟩ := Int.eq_ofNat_of_zero_le (show 0 ≤ c by omega)
    have hzb0 := Pk.shL_pos n.toNat
    have hzb1 := Pk.shL_le n.toNat
    have hzc0 := Pk.shL_pos s.size
    have hzc1 := Pk.shL_le s.size
    have hjb : C % (Pk.shL n.toNat).length < (Pk.shL n.toNat).length := Nat.mod_lt _ hzb0
    have hjc : C % ((Pk.shL s.size).length + s.size) < (Pk.shL s.size).length + s.size := Nat.mod_lt _ (by omega)
    exact cuts_core n C s (strOf (Pk.fixL n.toNat)) (strOf (Pk.shL n.toNat)) (strOf (Pk.shL s.size) ++ s) (C % 8) (C % (Pk.shL n.toNat).length) (C % ((Pk.shL s.size).length + s.size)) (Pk.shL n.toNat).length ((Pk.shL s.size).length + s.size) W
      (by omega) (by omega) (fun W => fixed_any n W hn) (fun W => short_any n W hn) (fun W => text_any s W (by omega))
      (by rw [strOf_size]; rfl) (strOf_size _) (by rw [ByteArray.size_append, strOf_size]) (by omega) (by omega) (by omega) (by omega) hjb hjc hzb1 (by omega)
      (fixed_cut _ _ (by omega)) (short_cut _ _ hjb) (text_cut s _ hjc (by omega))
end Go.Proofs.Ytnjdkocpfcodfaa
