/- The document's Read. -/
import Derived.Test.YtmpgaecnibakdaaDoorAp
namespace Go.Proofs.YtmpgaecnibakdaaDoor
open Go.ChangeShapes Go.WideShapes Go.ChangeAt Go.RowKit
attribute [local go_sem] Oper.semAt_some

set_option maxHeartbeats 4000000 in
set_option maxRecDepth 10000 in
theorem readD_any (a : Option Addr) (cap : Nat) (l : List Pc) (size off n : Int) (w : World) (hr : Ps w a l) (hl : l.length ≤ 100000) (hd : ∀ p ∈ l, p.2.length ≤ 1000000) (o1 : off ≤ 9223372036854775807) :
    Calls Tryd.prog 13 #[.slice a l.length cap, .int .i64 size, .int .i64 off, .int .i64 n] w fun e w' => e = .returned (textA (readA l size off n)) ∧ Below w.heap.size w w' := by
  have HC := hide (chkD_any a cap l size w hr hl hd)
  by_cases hc : chkR l size = 0
  case neg =>
    rw [readA_form hc]
    have h21 : chkR l size = 21 := (chk_two l size).resolve_left hc
    rw [h21] at HC
    clear hr hc h21
    go_enter Tryd.func13, Tryd.ntmps13
    go_wp2_with fail
    refine (unhide HC).mono ?_
    rintro e w1 ⟨rfl, hb1⟩
    have HB1 := hide hb1
    clear hb1 HC
    go_wp2
    go_ret2
    exact ⟨rfl, unhide HB1⟩
  have hri := right_chk hc
  by_cases ha : off < 0 ∨ n < 0 ∨ 4096 < n
  · rw [readA_arg hc ha]
    rw [hc] at HC
    clear hr hri hc
    by_cases a1 : off < 0
    · go_enter Tryd.func13, Tryd.ntmps13
      go_wp2_with fail
      refine (unhide HC).mono ?_
      rintro e w1 ⟨rfl, hb1⟩
      have HB1 := hide hb1
      clear hb1 HC ha
      go_wp2
      go_ret2
      exact ⟨rfl, unhide HB1⟩
    · by_cases a2 : n < 0
      · go_enter Tryd.func13, Tryd.ntmps13
        go_wp2_with fail
        refine (unhide HC).mono ?_
        rintro e w1 ⟨rfl, hb1⟩
        have HB1 := hide hb1
        clear hb1 HC ha
        go_wp2
        go_ret2
        exact ⟨rfl, unhide HB1⟩
      · have a3 : 4096 < n := by omega
        go_enter Tryd.func13, Tryd.ntmps13
        go_wp2_with fail
        refine (unhide HC).mono ?_
        rintro e w1 ⟨rfl, hb1⟩
        have HB1 := hide hb1
        clear hb1 HC ha
        go_wp2
        go_ret2
        exact ⟨rfl, unhide HB1⟩
  rw [readA_ok hc ha]
  rw [hc] at HC
  have a1 : ¬ off < 0 := by omega
  have a2 : ¬ n < 0 := by omega
  have a3 : ¬ 4096 < n := by omega
  have s0 := hri.lo
  have s1 := hri.hi
  have HR := hide (fun place W (hW : Below w.heap.size w W) (p0 : 0 ≤ place) (p1 : place ≤ 9223372036854775807) => at_any a cap l place W (hr.below hW) hl hri.so (fun p hp => (hri.ok p hp).2.2.1) p0 p1)
  obtain ⟨N, hN⟩ : ∃ N, N = (min n (size - off)).toNat := ⟨_, rfl⟩
  have HE : Hid (readR l size off n = rowOf N fun k => atR l (off + k)) := by
    show _ = _
    rw [hN]
    rfl
  rw [unhide HE]
  clear hr hri hc HE ha
  go_enter Tryd.func13, Tryd.ntmps13
  go_wp2_with fail
  refine (unhide HC).mono ?_
  rintro e w1 ⟨rfl, hb1⟩
  have HB1 := hide hb1
  clear hb1 HC
  go_wp2
  go_loopw [11, 12] (fun r s wr => ∃ k : Nat, k ≤ N ∧ s = .int .i64 k ∧ OwnB w.heap.size wr r (rowOf k fun j => atR l (off + j)) ∧ Below w.heap.size w wr) (fun _ s _ => N - (intOf s).toNat)
  case atStart => exact ⟨0, Nat.zero_le _, rfl, OwnB.nil _ _, unhide HB1⟩
  case round =>
    obtain ⟨k, hk, rfl, ho, hb⟩ := hrel
    have HO := hide ho
    have HB := hide hb
    have hs := hb.size
    by_cases hlt : k < N
    · have c1 : (k : Int) < n := by omega
      have c2 : off < size - (k : Int) := by omega
      have HAT := hide (unhide HR (off + (k : Int)) wr hb (by omega) (by omega))
      have HKL := hide (rowOf_length k fun j => atR l (off + j))
      have HS : Hid ((rowOf k fun j => atR l (off + j)) ++ [atR l (off + (k : Int))] = rowOf (k + 1) fun j => atR l (off + j)) := (rowOf_succ _ _).symm
      generalize (rowOf k fun j => atR l (off + j)) = bsr at *
      obtain ⟨a0, cap0, rfl⟩ := ho.form
      generalize atR l (off + (k : Int)) = x at *
      have hsum : off + (k : Int) ≤ 9223372036854775807 := by omega
      have hsum0 : 0 ≤ off + (k : Int) := by omega
      clear ho hb hN HB1
      go_wp2_with fail
      refine (unhide HAT).mono ?_
      rintro e w2 ⟨rfl, rfl⟩
      go_wp2_with (at_builtin; refine app_byte x rfl _ _ rfl rfl rfl hs (unhide HO) (by rw [unhide HKL]; omega) ?_; intro a' cap' w' ho' hb'; have HO9 := hide ho'; have HB9 := hide ((unhide HB).trans hb'); clear ho' hb')
      go_roundw
      case rel => exact ⟨k + 1, by omega, by go_num, by rw [← unhide HS]; exact unhide HO9, unhide HB9⟩
      case measure => simp [intOf]; omega
    · obtain rfl : k = N := by omega
      have hconv := conv_own ho
      obtain ⟨a0, cap0, rfl⟩ := ho.form
      clear ho hb HB1 HR
      by_cases c1 : (k : Int) < n
      · have c2 : ¬ off < size - (k : Int) := by omega
        have c3 : -9223372036854775808 ≤ size - (k : Int) := by omega
        clear hN
        go_wp2
        go_ret2
        exact ⟨rfl, unhide HB⟩
      · clear hN
        go_wp2
        go_ret2
        exact ⟨rfl, unhide HB⟩
end Go.Proofs.YtmpgaecnibakdaaDoor
