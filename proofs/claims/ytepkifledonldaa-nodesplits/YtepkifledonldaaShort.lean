
/- What the two Shorts do: a short number's bytes. -/
import Derived.Test.YtepkifledonldaaKit
namespace Go.Proofs.Ytepkifledonldaa
open Go.ChangeShapes Go.WideShapes Go.ChangeAt Go.RowKit

theorem or128 (m : Nat) : bits .or .u8 ((m : Int) % 256) 128 = ((m % 128 + 128 : Nat) : Int) := by
  have h := u8_or_nat (m % 256) 128 (by omega) (by decide)
  have e : ∀ x : Fin 256, x.val ||| 128 = x.val % 128 + 128 := by decide +kernel
  have e1 := e ⟨m % 256, by omega⟩
  simp only at e1
  rw [e1] at h
  have e2 : m % 256 % 128 = m % 128 := by omega
  rw [e2] at h
  have e3 : ((m % 256 : Nat) : Int) = (m : Int) % 256 := by omega
  rw [e3] at h
  exact h

/-- where the loop stands: what is written, what is left -/
def Mid (N : Nat) (pre : List Nat) (m : Nat) : Prop := ∃ f, pre ++ Pk.shF f m = Pk.shL N ∧ m < 2 ^ (7 * f + 1)
theorem Mid.start (N : Nat) (h : N < 18446744073709551616) : Mid N [] N := ⟨9, rfl, by simpa using h⟩
theorem Mid.step {N m : Nat} {pre : List Nat} (h : Mid N pre m) (hm : ¬ m < 128) : Mid N (pre ++ [m % 128 + 128]) (m / 128) := by
  obtain ⟨f, he, hl⟩ := h
  cases f with
  | zero => simp at hl; omega
  | succ f =>
    refine ⟨f, ?_, ?_⟩
    · rw [← he, Pk.shF_big f m hm, List.append_assoc]
      rfl
    · have : 2 ^ (7 * (f + 1) + 1) = 128 * 2 ^ (7 * f + 1) := by rw [show 7 * (f + 1) + 1 = (7 * f + 1) + 7 by omega, Nat.pow_add]; omega
      omega
theorem Mid.stop {N m : Nat} {pre : List Nat} (h : Mid N pre m) (hm : m < 128) : pre ++ [m] = Pk.shL N := by
  obtain ⟨f, he, _⟩ := h
  rw [← he, Pk.shF_small f m hm]
theorem Mid.len {N m : Nat} {pre : List Nat} (h : Mid N pre m) : pre.length ≤ 10 := by
  obtain ⟨f, he, _⟩ := h
  have := Pk.shL_le N
  rw [← he, List.length_append] at this
  omega

set_option maxRecDepth 10000 in
set_option maxHeartbeats 400000 in
theorem short_any (n : Int) (w : World) (hn : 0 ≤ n ∧ n < 18446744073709551616) :
    Calls Try.prog 63 #[.int .u64 n] w fun e w' => e = .returned (.string (strOf (Pk.shL n.toNat))) ∧ Below w.heap.size w w' := by
  obtain ⟨N, rfl⟩ := Int.eq_ofNat_of_zero_le hn.1
  have hN : N < 18446744073709551616 := by omega
  rw [Int.toNat_natCast]
  generalize hB : w.heap.size = B at *
  have HB := hide hB
  clear hB
  go_enter Try.func63, Try.ntmps63
  go_wp2
  go_loopw [0, 3] (fun t v wr => ∃ (m : Nat) (pre : List Nat), t = .int .u64 m ∧ m ≤ N ∧ Mid N pre m ∧ Own B wr v pre ∧ Below B w wr) (fun t _ _ => (intOf t).toNat)
  case atStart => exact ⟨N, [], rfl, Nat.le_refl _, Mid.start N hN, World.ownsRow_nil _ _ _ _, Below.refl _ _⟩
  case round =>
    obtain ⟨m, pre, rfl, hmN, hmid, hown, hbel⟩ := hrel
    have hBw : B ≤ wr.heap.size := by have := hbel.size; have := unhide HB; omega
    have HO := hide hown
    have HBel := hide hbel
    have HM := hide hmid
    have hlen := hmid.len
    clear hown hbel hmid
    by_cases hlt : m < 128
    · have hmod : (m : Int) % 256 = (m : Int) := by omega
      go_wp2_with (at_builtin; refine app_one (b := m) rfl _ _ rfl rfl rfl hBw (unhide HBel) (unhide HO) (by omega) ?_; intro a' cap' w' ho' hb'; have hcv := conv_own ho')
      go_ret
      rw [(unhide HM).stop hlt]
      exact ⟨rfl, hb'⟩
    · have hor := or128 m
      go_wp2_with (at_builtin; refine app_one (b := m % 128 + 128) rfl _ _ rfl rfl rfl hBw (unhide HBel) (unhide HO) (by omega) ?_; intro a' cap' w' ho' hb')
      go_roundw
      case rel => exact ⟨m / 128, pre ++ [m % 128 + 128], by go_num, by omega, (unhide HM).step hlt, ho', hb'⟩
      case measure => simp [intOf]; omega

set_option maxRecDepth 10000 in
set_option maxHeartbeats 400000 in
theorem refShort_any (n : Int) (w : World) (hn : 0 ≤ n ∧ n < 18446744073709551616) :
    Calls Try.prog 46 #[.int .u64 n] w fun e w' => e = .returned (.string (strOf (Pk.shL n.toNat))) ∧ Below w.heap.size w w' := by
  obtain ⟨N, rfl⟩ := Int.eq_ofNat_of_zero_le hn.1
  have hN : N < 18446744073709551616 := by omega
  rw [Int.toNat_natCast]
  generalize hB : w.heap.size = B at *
  have HB := hide hB
  clear hB
  go_enter Try.func46, Try.ntmps46
  go_wp2
  go_loopw [0, 3] (fun t v wr => ∃ (m : Nat) (pre : List Nat), t = .int .u64 m ∧ m ≤ N ∧ Mid N pre m ∧ Own B wr v pre ∧ Below B w wr) (fun t _ _ => (intOf t).toNat)
  case atStart => exact ⟨N, [], rfl, Nat.le_refl _, Mid.start N hN, World.ownsRow_nil _ _ _ _, Below.refl _ _⟩
  case round =>
    obtain ⟨m, pre, rfl, hmN, hmid, hown, hbel⟩ := hrel
    have hBw : B ≤ wr.heap.size := by have := hbel.size; have := unhide HB; omega
    have HO := hide hown
    have HBel := hide hbel
    have HM := hide hmid
    have hlen := hmid.len
    clear hown hbel hmid
    by_cases hlt : m < 128
    · have hmod : (m : Int) % 256 = (m : Int) := by omega
      go_wp2_with (at_builtin; refine app_one (b := m) rfl _ _ rfl rfl rfl hBw (unhide HBel) (unhide HO) (by omega) ?_; intro a' cap' w' ho' hb'; have hcv := conv_own ho')
      go_ret
      rw [(unhide HM).stop hlt]
      exact ⟨rfl, hb'⟩
    · have hor := or128 m
      go_wp2_with (at_builtin; refine app_one (b := m % 128 + 128) rfl _ _ rfl rfl rfl hBw (unhide HBel) (unhide HO) (by omega) ?_; intro a' cap' w' ho' hb')
      go_roundw
      case rel => exact ⟨m / 128, pre ++ [m % 128 + 128], by go_num, by omega, (unhide HM).step hlt, ho', hb'⟩
      case measure => simp [intOf]; omega

set_option maxRecDepth 10000 in
set_option maxHeartbeats 400000 in
theorem text_any (s : ByteArray) (w : World) (hs : s.size ≤ 1000000) :
    Calls Try.prog 60 #[.string s] w fun e w' => e = .returned (.string (strOf (Pk.shL s.size) ++ s)) ∧ Below w.heap.size w w' := by
  have hl := Pk.shL_le s.size
  have hz := strOf_size (Pk.shL s.size)
  have hz' : (strOf (Pk.shL s.size)).size ≤ 10 := by omega
  clear hz hl
  go_enter Try.func60, Try.ntmps60
  go_wp2_with (go_at_call 63; refine (short_any _ _ (by omega)).mono ?_; rw [Int.toNat_natCast]; rintro e w' ⟨rfl, hb⟩)
  go_ret
  exact ⟨rfl, hb⟩

set_option maxRecDepth 10000 in
set_option maxHeartbeats 400000 in
theorem refText_any (s : ByteArray) (w : World) (hs : s.size ≤ 1000000) :
    Calls Try.prog 66 #[.string s] w fun e w' => e = .returned (.string (strOf (Pk.shL s.size) ++ s)) ∧ Below w.heap.size w w' := by
  have hl := Pk.shL_le s.size
  have hz := strOf_size (Pk.shL s.size)
  have hz' : (strOf (Pk.shL s.size)).size ≤ 10 := by omega
  clear hz hl
  go_enter Try.func66, Try.ntmps66
  go_wp2_with (go_at_call 46; refine (refShort_any _ _ (by omega)).mono ?_; rw [Int.toNat_natCast]; rintro e w' ⟨rfl, hb⟩)
  go_ret
  exact ⟨rfl, hb⟩
end Go.Proofs.Ytepkifledonldaa
