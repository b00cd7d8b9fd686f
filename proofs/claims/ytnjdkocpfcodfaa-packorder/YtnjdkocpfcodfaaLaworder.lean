/- The walk of the law PackOrder. -/
import Derived.Test.YtnjdkocpfcodfaaAwake
import Derived.Deep.RegionWith
namespace Go.Proofs.Ytnjdkocpfcodfaa
open Go.ChangeShapes Go.WideShapes Go.ChangeAt Go.RowKit

theorem fold_from (l : List Nat) (a : Nat) : l.foldl (fun a b => a * 256 + b) a = a * 256 ^ l.length + Pk.fixN l := by
  induction l generalizing a with
  | nil => simp [Pk.fixN]
  | cons b t ih =>
    have e : Pk.fixN (b :: t) = t.foldl (fun a b => a * 256 + b) (0 * 256 + b) := rfl
    rw [e, List.foldl_cons, List.length_cons, ih, ih, Nat.pow_succ, Nat.add_mul, Nat.zero_mul, Nat.zero_add, Nat.mul_assoc, Nat.mul_comm 256, Nat.add_assoc]
theorem fixN_cons (b : Nat) (t : List Nat) : Pk.fixN (b :: t) = b * 256 ^ t.length + Pk.fixN t := by
  have e : Pk.fixN (b :: t) = t.foldl (fun a b => a * 256 + b) (0 * 256 + b) := rfl
  rw [e, fold_from, Nat.zero_mul, Nat.zero_add]
theorem bytes_of (l : List Nat) : (strOf l).toList = l.map fun n : Nat => UInt8.ofNat n := by
  rw [ByteArray.toList_eq]
  unfold strOf
  rw [strOfNums_data, List.map_map]
  rfl
theorem num_less (a b x y P : Nat) (fx : x < P) (fy : y < P) : (decide (a < b) || (decide (a = b) && decide (x < y))) = decide (a * P + x < b * P + y) := by
  rcases Nat.lt_trichotomy a b with h | h | h
  · have h3 : a * P + x < b * P + y := by
      have : (a + 1) * P ≤ b * P := Nat.mul_le_mul_right _ h
      rw [Nat.add_mul, Nat.one_mul] at this
      omega
    simp [h, h3]
  · subst h
    simp
  · have h3 : ¬ a * P + x < b * P + y := by
      have : (b + 1) * P ≤ a * P := Nat.mul_le_mul_right _ h
      rw [Nat.add_mul, Nat.one_mul] at this
      omega
    rw [decide_eq_false h3]
    simp [show ¬ a < b by omega, show ¬ a = b by omega]
/-- texts of one length stand in the order of their numbers -/
theorem less_num (l r : List Nat) (hl : ∀ b ∈ l, b < 256) (hr : ∀ b ∈ r, b < 256) (hn : l.length = r.length) :
    Op.bytesLess (l.map fun n : Nat => UInt8.ofNat n) (r.map fun n : Nat => UInt8.ofNat n) = decide (Pk.fixN l < Pk.fixN r) := by
  induction l generalizing r with
  | nil =>
    obtain rfl : r = [] := List.length_eq_zero_iff.1 hn.symm
    rfl
  | cons a x ih =>
    match r, hn with
    | b :: y, hn =>
      have hxy : x.length = y.length := by simpa using hn
      have hx : ∀ c ∈ x, c < 256 := fun c hc => hl c (List.mem_cons_of_mem _ hc)
      have hy : ∀ c ∈ y, c < 256 := fun c hc => hr c (List.mem_cons_of_mem _ hc)
      have ha := hl a List.mem_cons_self
      have hb := hr b List.mem_cons_self
      have fx := Pk.fixN_lt x hx
      have fy := Pk.fixN_lt y hy
      rw [← hxy] at fy
      simp only [List.map_cons, Op.bytesLess]
      rw [ih y hx hy hxy, fixN_cons, fixN_cons, ← hxy]
      have e1 : (UInt8.ofNat a < UInt8.ofNat b) ↔ a < b := by
        rw [UInt8.lt_iff_toNat_lt]
        simp [Nat.mod_eq_of_lt ha, Nat.mod_eq_of_lt hb]
      have e2 : (UInt8.ofNat a == UInt8.ofNat b) = decide (a = b) := by
        rw [Bool.eq_iff_iff, beq_iff_eq, decide_eq_true_iff, ← UInt8.toNat_inj]
        simp [Nat.mod_eq_of_lt ha, Nat.mod_eq_of_lt hb]
      rw [decide_eq_decide.2 e1, e2]
      exact num_less a b _ _ _ fx fy

theorem fixed_less (A B : Nat) (hA : A < 18446744073709551616) (hB : B < 18446744073709551616) : Op.bytesLess (strOf (Pk.fixL A)).toList (strOf (Pk.fixL B)).toList = decide (A < B) := by
  rw [bytes_of, bytes_of, less_num _ _ (Pk.fixL_lt A) (Pk.fixL_lt B) rfl, Pk.fixN_fixL A hA, Pk.fixN_fixL B hB]
theorem str_eq (l r : List Nat) (hl : ∀ b ∈ l, b < 256) (hr : ∀ b ∈ r, b < 256) : ((strOf l).toList == (strOf r).toList) = decide (l = r) := by
  rw [Bool.eq_iff_iff, beq_iff_eq, decide_eq_true_iff]
  refine ⟨fun h => ?_, fun h => by rw [h]⟩
  have e : strOf l = strOf r := by
    apply ByteArray.ext
    apply Array.toList_inj.1
    rw [← ByteArray.toList_eq, ← ByteArray.toList_eq]
    exact h
  have := congrArg bn e
  rwa [bn_strOf l hl, bn_strOf r hr] at this
theorem fixed_unlike (A B : Nat) (hA : A < 18446744073709551616) (hB : B < 18446744073709551616) (h : A ≠ B) : ((strOf (Pk.fixL A)).toList == (strOf (Pk.fixL B)).toList) = false := by
  rw [str_eq _ _ (Pk.fixL_lt A) (Pk.fixL_lt B), decide_eq_false_iff_not]
  exact fun e => h (Pk.fixL_inj A B hA hB e)
theorem short_unlike (A B : Nat) (hA : A < 18446744073709551616) (hB : B < 18446744073709551616) (h : A ≠ B) : ((strOf (Pk.shL A)).toList == (strOf (Pk.shL B)).toList) = false := by
  rw [str_eq _ _ (Pk.shL_lt A) (Pk.shL_lt B), decide_eq_false_iff_not]
  exact fun e => h (Pk.shL_inj A B hA hB e)

/-- where the count of bytes stands -/
def Count (N x m : Nat) : Prop := m ≤ 10 ∧ (x = 0 → m = (Pk.shL N).length) ∧ (x ≠ 0 → ∃ f, m + (Pk.shF f x).length = (Pk.shL N).length ∧ x < 2 ^ (7 * f + 1))
theorem Count.start (N : Nat) (h : N < 18446744073709551616) : Count N (N / 128) 1 := by
  refine ⟨by omega, fun h0 => ?_, fun h0 => ⟨8, ?_, ?_⟩⟩
  · unfold Pk.shL
    rw [Pk.shF_small 9 N (by omega)]
    rfl
  · unfold Pk.shL
    rw [Pk.shF_big 8 N (by omega), List.length_cons]
    omega
  · have e : (2 : Nat) ^ (7 * 8 + 1) = 144115188075855872 := by decide
    rw [e]
    omega
theorem Count.step {N x m : Nat} (h : Count N x m) (h0 : x ≠ 0) : Count N (x / 128) (m + 1) := by
  obtain ⟨_, _, h2⟩ := h
  obtain ⟨f, hf, hx⟩ := h2 h0
  have hl := Pk.shL_le N
  have hp := Pk.shF_pos f x
  refine ⟨by omega, fun hz => ?_, fun hz => ?_⟩
  · rw [Pk.shF_small f x (by omega), List.length_singleton] at hf
    exact hf
  · cases f with
    | zero => simp at hx; omega
    | succ f =>
      refine ⟨f, ?_, ?_⟩
      · rw [Pk.shF_big f x (by omega), List.length_cons] at hf
        omega
      · have : 2 ^ (7 * (f + 1) + 1) = 128 * 2 ^ (7 * f + 1) := by rw [show 7 * (f + 1) + 1 = (7 * f + 1) + 7 by omega, Nat.pow_add]; omega
        omega

set_option maxRecDepth 10000 in
set_option maxHeartbeats 2000000 in
theorem order_walk (a b : Int) (w : World) (ha : 0 ≤ a ∧ a < 18446744073709551616) (hb : 0 ≤ b ∧ b < 18446744073709551616) :
    Calls Try.prog 7 #[.int .u64 a, .int .u64 b] w fun e w' => e = .returned (.bool true) ∧ Below w.heap.size w w' := by
  obtain ⟨A, rfl⟩ := Int.eq_ofNat_of_zero_le ha.1
  obtain ⟨B, rfl⟩ := Int.eq_ofNat_of_zero_le hb.1
  have hA : A < 18446744073709551616 := by omega
  have hB : B < 18446744073709551616 := by omega
  have HFL := hide (fixed_less A B hA hB)
  have HFU := hide (fixed_unlike A B hA hB)
  have HSU := hide (short_unlike A B hA hB)
  have HFA := hide (fun W => fixed_any A W ha)
  have HFB := hide (fun W => fixed_any B W hb)
  have HSA := hide (fun W => short_any A W ha)
  have HSB := hide (fun W => short_any B W hb)
  rw [Int.toNat_natCast] at HFA HFB HSA HSB
  go_enter Try.func7, Try.ntmps7
  go_wp2_with (go_at_call 10; refine (awake_any _).mono ?_; rintro x w0 ⟨rfl, hb0⟩)
  go_loop [5, 6] (fun t u => ∃ m x : Nat, t = .int .i64 m ∧ u = .int .u64 x ∧ x ≤ A ∧ Count A x m) (fun _ u => (intOf u).toNat)
  case atStart => exact ⟨1, A / 128, rfl, by go_num, by omega, Count.start A hA⟩
  case round =>
    obtain ⟨m, x, rfl, rfl, hxA, hcount⟩ := hrel
    have hm := hcount.1
    have HC := hide hcount
    clear hcount
    by_cases h0 : x = 0
    · subst h0
      have hz : (strOf (Pk.shL A)).size = m := by rw [strOf_size]; exact ((unhide HC).2.1 rfl).symm
      clear HC
      rcases Nat.lt_trichotomy A B with h | h | h
      · have f1 := unhide HFL
        rw [decide_eq_true h] at f1
        have f2 := unhide HFU (by omega)
        have f3 := unhide HSU (by omega)
        have f4 : ((A : Int) == (B : Int)) = false := beq_eq_false_iff_ne.2 (by omega)
        go_wp2_with (first
          | (go_at_call_of 11 (A : Int); refine (unhide HFA _).mono ?_; rintro x w1 ⟨rfl, hb1⟩; have hb0 := below_then hb0 hb1; clear hb1)
          | (go_at_call_of 11 (B : Int); refine (unhide HFB _).mono ?_; rintro x w1 ⟨rfl, hb1⟩; have hb0 := below_then hb0 hb1; clear hb1)
          | (go_at_call_of 13 (A : Int); refine (unhide HSA _).mono ?_; rintro x w1 ⟨rfl, hb1⟩; have hb0 := below_then hb0 hb1; clear hb1)
          | (go_at_call_of 13 (B : Int); refine (unhide HSB _).mono ?_; rintro x w1 ⟨rfl, hb1⟩; have hb0 := below_then hb0 hb1; clear hb1))
        go_ret
        exact ⟨rfl, hb0⟩
      · subst h
        have f1 := unhide HFL
        rw [decide_eq_false (Nat.lt_irrefl A)] at f1
        go_wp2_with (first
          | (go_at_call_of 11 (A : Int); refine (unhide HFA _).mono ?_; rintro x w1 ⟨rfl, hb1⟩; have hb0 := below_then hb0 hb1; clear hb1)
          | (go_at_call_of 11 (B : Int); refine (unhide HFB _).mono ?_; rintro x w1 ⟨rfl, hb1⟩; have hb0 := below_then hb0 hb1; clear hb1)
          | (go_at_call_of 13 (A : Int); refine (unhide HSA _).mono ?_; rintro x w1 ⟨rfl, hb1⟩; have hb0 := below_then hb0 hb1; clear hb1)
          | (go_at_call_of 13 (B : Int); refine (unhide HSB _).mono ?_; rintro x w1 ⟨rfl, hb1⟩; have hb0 := below_then hb0 hb1; clear hb1))
        go_ret
        exact ⟨rfl, hb0⟩
      · have f1 := unhide HFL
        have f0 : decide (A < B) = false := decide_eq_false (by omega)
        rw [f0] at f1
        have f2 := unhide HFU (by omega)
        have f3 := unhide HSU (by omega)
        have f4 : ((A : Int) == (B : Int)) = false := beq_eq_false_iff_ne.2 (by omega)
        go_wp2_with (first
          | (go_at_call_of 11 (A : Int); refine (unhide HFA _).mono ?_; rintro x w1 ⟨rfl, hb1⟩; have hb0 := below_then hb0 hb1; clear hb1)
          | (go_at_call_of 11 (B : Int); refine (unhide HFB _).mono ?_; rintro x w1 ⟨rfl, hb1⟩; have hb0 := below_then hb0 hb1; clear hb1)
          | (go_at_call_of 13 (A : Int); refine (unhide HSA _).mono ?_; rintro x w1 ⟨rfl, hb1⟩; have hb0 := below_then hb0 hb1; clear hb1)
          | (go_at_call_of 13 (B : Int); refine (unhide HSB _).mono ?_; rintro x w1 ⟨rfl, hb1⟩; have hb0 := below_then hb0 hb1; clear hb1))
        go_ret
        exact ⟨rfl, hb0⟩
    · have hpos : 0 < x := by omega
      go_wp2
      go_round
      case rel => exact ⟨m + 1, x / 128, by go_num, by go_num, by omega, (unhide HC).step h0⟩
      case measure => simp [intOf]; omega
end Go.Proofs.Ytnjdkocpfcodfaa
