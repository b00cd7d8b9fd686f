/- The walk of the law CrcTurns. -/
import Derived.Test.YtknlgclbdoencaaDoorStore
import Derived.Deep.RegionHeld3
namespace Go.Proofs.YtknlgclbdoencaaDoor
open Go.ChangeShapes Go.WideShapes Go.ChangeAt Go.RowKit

set_option maxHeartbeats 1000000 in
theorem turns_out (a0 : Option Addr) (n c0 : Nat) (p b : Int) (w : World) (hT : Tab w) (hn : n ≤ 9223372036854775807) (hp : -9223372036854775808 ≤ p ∧ p ≤ 9223372036854775807)
    (h : 8192 < n ∨ n < 4 ∨ b = 0 ∨ p < 0 ∨ 8 * (n : Int) - 32 < p) :
    Calls Tryd.prog 5 #[.slice a0 n c0, .int .i64 p, .int .u32 b] w fun e w' => e = .returned (.bool true) ∧ Below w.heap.size w w' := by
  have HA := hide (awake_any w hT)
  clear hT
  by_cases k0 : 8192 < n
  · clear h
    go_enter Tryd.func5, Tryd.ntmps5
    go_wp2_with (go_at_call 8; refine (unhide HA).mono ?_; rintro e w' ⟨rfl, rfl⟩)
    go_ret
    exact ⟨rfl, Below.refl _ _⟩
  · by_cases k1 : n < 4
    · clear h
      go_enter Tryd.func5, Tryd.ntmps5
      go_wp2_with (go_at_call 8; refine (unhide HA).mono ?_; rintro e w' ⟨rfl, rfl⟩)
      go_ret
      exact ⟨rfl, Below.refl _ _⟩
    · by_cases k2 : b = 0
      · clear h
        subst k2
        go_enter Tryd.func5, Tryd.ntmps5
        go_wp2_with (go_at_call 8; refine (unhide HA).mono ?_; rintro e w' ⟨rfl, rfl⟩)
        go_ret
        exact ⟨rfl, Below.refl _ _⟩
      · have k2' : (b == 0) = false := beq_eq_false_iff_ne.2 k2
        by_cases k3 : p < 0
        · clear h k2
          go_enter Tryd.func5, Tryd.ntmps5
          go_wp2_with (go_at_call 8; refine (unhide HA).mono ?_; rintro e w' ⟨rfl, rfl⟩)
          go_ret
          exact ⟨rfl, Below.refl _ _⟩
        · have k4 : 8 * (n : Int) - 32 < p := by omega
          clear h k2
          go_enter Tryd.func5, Tryd.ntmps5
          go_wp2_with (go_at_call 8; refine (unhide HA).mono ?_; rintro e w' ⟨rfl, rfl⟩)
          go_ret
          exact ⟨rfl, Below.refl _ _⟩

theorem and1_shift (b k : Nat) (hb : b < 4294967296) : bits .and .u32 ((b : Int) / 2 ^ k) 1 = ((b / 2 ^ k % 2 : Nat) : Int) := by
  have h := and1 (b / 2 ^ k) (Nat.lt_of_le_of_lt (Nat.div_le_self _ _) hb)
  have e : ((b / 2 ^ k : Nat) : Int) = (b : Int) / 2 ^ k := by simp
  rw [e] at h
  exact h
theorem bit_set (b k : Nat) (h : b / 2 ^ k % 2 = 1) : b % 2 ^ (k + 1) = (b % 2 ^ k) ^^^ 2 ^ k := by
  apply Nat.eq_of_testBit_eq
  intro i
  rw [Nat.testBit_xor, Nat.testBit_mod_two_pow, Nat.testBit_mod_two_pow, Nat.testBit_two_pow]
  by_cases he : k = i
  · subst he
    have : b.testBit k = true := by rw [Nat.testBit_eq_decide_div_mod_eq]; simp [h]
    simp [this]
  · by_cases hi : i < k
    · simp [hi, he, Nat.lt_succ_of_lt hi]
    · simp [hi, he, show ¬ i < k + 1 by omega]
theorem bit_unset (b k : Nat) (h : ¬ b / 2 ^ k % 2 = 1) : b % 2 ^ (k + 1) = b % 2 ^ k := by
  apply Nat.eq_of_testBit_eq
  intro i
  rw [Nat.testBit_mod_two_pow, Nat.testBit_mod_two_pow]
  by_cases he : k = i
  · subst he
    have : b.testBit k = false := by rw [Nat.testBit_eq_decide_div_mod_eq]; simp [h]
    simp [this]
  · by_cases hi : i < k
    · simp [hi, Nat.lt_succ_of_lt hi]
    · simp [hi, show ¬ i < k + 1 by omega]

/-- a bit is turned -/
theorem turn_step {l t : List Nat} {b k p : Nat} (h : b / 2 ^ k % 2 = 1) (hj : (p + k) / 8 < t.length) (hm : Crc.msg t = Crc.msg l ^^^ ((b % 2 ^ k) * 2 ^ p)) :
    Crc.msg (t.set ((p + k) / 8) (t.getD ((p + k) / 8) 0 ^^^ 2 ^ ((p + k) % 8))) = Crc.msg l ^^^ ((b % 2 ^ (k + 1)) * 2 ^ p) := by
  have e : t.getD ((p + k) / 8) 0 = t[(p + k) / 8] := by rw [List.getD_eq_getElem?_getD, List.getElem?_eq_getElem hj]; rfl
  rw [e, Crc.msg_set t _ _ hj, hm, bit_set b k h, Crc.pow_xor, Nat.xor_assoc, ← Nat.pow_add, ← Nat.pow_add]
  have e2 : (p + k) % 8 + 8 * ((p + k) / 8) = k + p := by omega
  rw [e2]

theorem turn_rel {W wr : World} {g1 c1 k p b u : Nat} {l t : List Nat} (h : b / 2 ^ k % 2 = 1) (hj : (p + k) / 8 < t.length) (hm : Crc.msg t = Crc.msg l ^^^ ((b % 2 ^ k) * 2 ^ p)) (ht : t.length = l.length) (htb : ∀ b ∈ t, b < 256)
    (hu : t.getD ((p + k) / 8) 0 = u) (r1 : Own W.heap.size wr (.slice (some ⟨g1, 0, none⟩) l.length c1) t) (rb : Below W.heap.size W wr) (hg : W.heap.size ≤ g1) :
    ∃ t' : List Nat, t'.length = l.length ∧ (∀ b ∈ t', b < 256) ∧ Crc.msg t' = Crc.msg l ^^^ ((b % 2 ^ (k + 1)) * 2 ^ p) ∧
      Own W.heap.size (wr.setCell ⟨g1, (p + k) / 8, none⟩ (.int .u8 (bits .xor .u8 (u : Int) (2 ^ ((p + k) % 8) % 256)))).drew (.slice (some ⟨g1, 0, none⟩) l.length c1) t' ∧
      Below W.heap.size W (wr.setCell ⟨g1, (p + k) / 8, none⟩ (.int .u8 (bits .xor .u8 (u : Int) (2 ^ ((p + k) % 8) % 256)))).drew := by
  have hr : 2 ^ ((p + k) % 8) < 256 := by
    have : 2 ^ ((p + k) % 8) < 2 ^ 8 := Nat.pow_lt_pow_right (by decide) (Nat.mod_lt _ (by decide))
    simpa using this
  have hu8 : u < 256 := hu ▸ getD_lt htb _
  have e : bits .xor .u8 (u : Int) (2 ^ ((p + k) % 8) % 256) = ((u ^^^ 2 ^ ((p + k) % 8) : Nat) : Int) := by
    have h1 := u8_xor_nat u (2 ^ ((p + k) % 8)) hu8 hr
    have h2 : ((2 ^ ((p + k) % 8) : Nat) : Int) = 2 ^ ((p + k) % 8) % 256 := by
      have : ((2 ^ ((p + k) % 8) : Nat) : Int) = (2 : Int) ^ ((p + k) % 8) := by simp
      rw [← this]
      generalize 2 ^ ((p + k) % 8) = n at *
      omega
    rw [h2] at h1
    exact h1
  rw [e]
  refine ⟨t.set ((p + k) / 8) (u ^^^ 2 ^ ((p + k) % 8)), by rw [List.length_set]; exact ht, ?_, ?_, ?_, ?_⟩
  · intro x hx
    rcases List.mem_or_eq_of_mem_set hx with h | h
    · exact htb x h
    · subst h
      have : u ^^^ 2 ^ ((p + k) % 8) < 2 ^ 8 := Nat.xor_lt_two_pow (by omega) (by omega)
      simpa using this
  · have := turn_step h hj hm
    rw [hu] at this
    exact this
  · exact (r1.set ht.symm _ _).below (Below.refl _ _).drew
  · exact (rb.setCell (p := ⟨g1, (p + k) / 8, none⟩) hg _).drew

theorem Inv.tail {W w : World} {p : Value × List Nat} {P : List (Value × List Nat)} (h : Inv W w (p :: P)) : Inv W w P := ⟨h.1, h.2.1, fun q hq => h.2.2 q (List.mem_cons_of_mem _ hq)⟩
theorem kept2 {W w : World} {v1 v2 : Value} {l1 l2 : List Nat} (h : Inv W w [(v1, l1), (v2, l2)]) :
    Inv W w [(v1, l1), (v2, l2)] ∧ (convert 23 9 v1).run Tryd.prog w = .ok (.string (strOf l1)) w ∧ (convert 23 9 v2).run Tryd.prog w = .ok (.string (strOf l2)) w :=
  ⟨h, conv_inv h (by simp), conv_inv h (by simp)⟩

theorem new_one (w : World) (v : Value) (t : TypeId) : (w.alloc (.cells #[v] t)).cell? ⟨w.heap.size, 0, none⟩ = some v := by simp
theorem new_drew (w : World) (v : Value) (t : TypeId) : (w.alloc (.cells #[v] t)).drew.cell? ⟨w.heap.size, 0, none⟩ = some v := new_one w v t
theorem sum_at {W w : World} {P : List (Value × List Nat)} {v1 : Value} {l1 : List Nat} {g cap : Nat} (hI : Inv W w P) (h1 : (v1, l1) ∈ P) (hc : w.cell? ⟨g, 0, none⟩ = some v1) :
    Calls Tryd.prog 10 #[.slice (some ⟨g, 0, none⟩) 1 cap] w fun e w' => e = .returned (.int .u32 (Crc.sum l1 : Nat)) ∧ Inv W w' P := by
  have h := sum_inv (g := g) (cap := cap) (Q := [(v1, l1)]) hI (fun p hp => by simp at hp; subst hp; exact h1) (by simp)
    (fun i hi => by
      match i, hi with
      | 0, _ => exact hc)
  have e : bytesOf [(v1, l1)] = l1 := by simp [bytesOf]
  rw [e] at h
  exact h

set_option maxHeartbeats 1000000 in
theorem turns_in (ga oa : Nat) (c0 : Nat) (l : List Nat) (p b : Nat) (W : World) (hT : Tab W) (h0 : l.length ≤ 8192) (h4 : 4 ≤ l.length) (hb : b < 4294967296) (hb0 : b ≠ 0) (hp : p + 32 ≤ 8 * l.length)
    (b0 : ∀ b ∈ l, b < 256) (hca : ∀ i, i < l.length → W.cell? ⟨ga, oa + i, none⟩ = some (.int .u8 (l.getD i 0 : Nat))) :
    Calls Tryd.prog 5 #[.slice (some ⟨ga, oa, none⟩) l.length c0, .int .i64 p, .int .u32 b] W fun e w' => e = .returned (.bool true) ∧ Below W.heap.size W w' := by
  have p0 : Byt W (.slice (some ⟨ga, oa, none⟩) l.length c0) l := .inr ⟨ga, oa, c0, rfl, hca⟩
  have HA := hide (awake_any W hT)
  have HT := hide hT
  have HP0 := hide p0
  have HB0 := hide b0
  have hbz : ((b : Int) == 0) = false := beq_eq_false_iff_ne.2 (by omega)
  have hpz : (p : Int) + 32 ≤ 8 * (l.length : Int) := by omega
  have HNZ := hide hb0
  clear hT p0 b0 hca hb0
  go_enter Tryd.func5, Tryd.ntmps5
  go_wp2_with (first
    | (go_at_call 8; refine (unhide HA).mono ?_; rintro e w' ⟨rfl, hw⟩; have hw := hw.symm; subst hw))
  refine (own_new W (Nat.le_refl _) (unhide HP0) h0 (by omega)).mono ?_
  rintro e w1 ⟨g1, c1, rfl, hl1, hu1, ho1, hb1⟩
  have HO1 := hide ho1
  have HB1 := hide hb1
  clear ho1 hb1
  go_wp2_with fail
  go_loopw [8] (fun i wr => ∃ k : Nat, k ≤ 32 ∧ i = .int .i64 k ∧ ∃ t : List Nat, t.length = l.length ∧ (∀ b ∈ t, b < 256) ∧ Crc.msg t = Crc.msg l ^^^ ((b % 2 ^ k) * 2 ^ p) ∧
      Own W.heap.size wr (.slice (some ⟨g1, 0, none⟩) l.length c1) t ∧ Below W.heap.size W wr) (fun i _ => 32 - (intOf i).toNat)
  case atStart => exact ⟨0, Nat.zero_le _, rfl, l, rfl, unhide HB0, by simp [Nat.mod_one], unhide HO1, unhide HB1⟩
  case round =>
    clear HO1 HB1
    obtain ⟨k, hk, rfl, t, ht, htb, hmsg, r1, rb⟩ := hrel
    have HM := hide hmsg
    have R1 := hide r1
    have RB := hide rb
    have HTB := hide htb
    clear hmsg r1 rb htb
    by_cases hlt : k < 32
    · have hand := and1_shift b k hb
      by_cases hbit : b / 2 ^ k % 2 = 1
      · rw [hbit] at hand
        have hand' : bits .and .u32 ((b : Int) / 2 ^ k) 1 = 1 := hand
        clear hand
        have HBIT := hide hbit
        clear hbit
        have hj : (p + k) / 8 < t.length := by omega
        obtain ⟨q1, f1⟩ := (unhide R1).at ht.symm ((p + k) / 8) hj
        have hu := getD_lt (unhide HTB) ((p + k) / 8)
        generalize hu' : t.getD ((p + k) / 8) 0 = u at *
        have HU := hide hu'
        clear hu'
        go_wp2
        go_region
        all_goals go_wp2
        go_roundw
        case rel =>
          refine ⟨k + 1, by omega, by go_num, ?_⟩
          exact turn_rel (unhide HBIT) hj (unhide HM) ht (unhide HTB) (unhide HU) (unhide R1) (unhide RB) hl1
        case measure => simp [intOf]; omega
      · have h0' : b / 2 ^ k % 2 = 0 := by omega
        rw [h0'] at hand
        have hand' : bits .and .u32 ((b : Int) / 2 ^ k) 1 = 0 := hand
        clear hand
        have HM' := hide (unhide HM)
        rw [← bit_unset b k hbit] at HM'
        clear hbit h0' HM
        go_wp2
        go_roundw
        case rel => exact ⟨k + 1, by omega, by go_num, t, ht, unhide HTB, unhide HM', unhide R1, unhide RB⟩
        case measure => simp [intOf]; omega
    · have hk32 : k = 32 := by omega
      subst hk32
      have hm : Crc.msg t = Crc.msg l ^^^ (b * 2 ^ p) := by
        have := unhide HM
        rw [Nat.mod_eq_of_lt (show b < 2 ^ 32 by omega)] at this
        exact this
      have hne := Crc.sum_turned ht b p hb (unhide HNZ) (by omega) hm
      have hne1 : ((Crc.sum t : Nat) : Int) ≠ ((Crc.sum l : Nat) : Int) := by omega
      have hne2 : (((Crc.sum t : Nat) : Int) == ((Crc.sum l : Nat) : Int)) = false := beq_eq_false_iff_ne.2 hne1
      have hne3 : (((Crc.sum t : Nat) : Int) != ((Crc.sum l : Nat) : Int)) = true := bne_iff_ne.2 hne1
      have hI : Inv W wr [(.slice (some ⟨g1, 0, none⟩) l.length c1, t), (.slice (some ⟨ga, oa, none⟩) l.length c0, l)] :=
        ⟨unhide RB, unhide HT, by
          intro p hp
          simp at hp
          rcases hp with rfl | rfl
          · exact part_of (unhide R1).byt (unhide HTB) (by omega)
          · exact (part_of (unhide HP0) (unhide HB0) h0).below (unhide RB)⟩
      have HNT := hide (bn_strOf t (unhide HTB))
      have HNL := hide (bn_strOf l (unhide HB0))
      have zt : (strOf t).size ≤ 8192 := by rw [strOf_size]; omega
      have zl : (strOf l).size ≤ 8192 := by rw [strOf_size]; omega
      clear hm hne hne1 HM R1 RB
      go_wp2_with fail
      go_region_held3 (fun w' => Inv W w' [(.slice (some ⟨g1, 0, none⟩) l.length c1, t), (.slice (some ⟨ga, oa, none⟩) l.length c0, l)] ∧ (convert 23 9 (.slice (some ⟨g1, 0, none⟩) l.length c1)).run Tryd.prog w' = .ok (.string (strOf t)) w' ∧
          (convert 23 9 (.slice (some ⟨ga, oa, none⟩) l.length c0)).run Tryd.prog w' = .ok (.string (strOf l)) w')
        ((refine kept2 ?_; go_split_ands; first | assumption | (refine Inv.drew ?_; assumption) | (refine Inv.alloc ?_ _; assumption) | (refine Inv.drew (Inv.alloc ?_ _); assumption)))
        (first
          | (go_at_call 11; go_split_ands; refine (own_inv (W := W) (l := l) (P := [(.slice (some ⟨g1, 0, none⟩) l.length c1, t), (.slice (some ⟨ga, oa, none⟩) l.length c0, l)]) ?_ ?_ h0).mono ?_; assumption; (exact List.mem_cons_of_mem _ List.mem_cons_self); rintro e w5 ⟨a5, c5, rfl, hI5, _⟩; have hT5 := hI5.tail)
          | (go_at_call 10; go_split_ands; refine (sum_at (W := W) (v1 := .slice (some ⟨g1, 0, none⟩) l.length c1) (l1 := t) (P := [(.slice (some ⟨g1, 0, none⟩) l.length c1, t), (.slice (some ⟨ga, oa, none⟩) l.length c0, l)]) ?_ ?_ ?_).mono ?_; assumption; (exact List.mem_cons_self); (first | exact new_drew _ _ _ | exact new_one _ _ _); rintro e w6 ⟨rfl, hI6⟩)
          | (go_at_call 10; refine (sum_at (v1 := .slice a5 l.length c5) (l1 := l) (hI5.alloc _) ?_ ?_).mono ?_; (exact List.mem_cons_self); (exact new_one _ _ _); rintro e w6 ⟨rfl, hI6⟩; have hI6 := hI6.tail)
          | (go_at_call_of 12 (strOf t); go_split_ands; refine (text_inv (W := W) (P := [(.slice (some ⟨g1, 0, none⟩) l.length c1, t), (.slice (some ⟨ga, oa, none⟩) l.length c0, l)]) (by assumption) (by unfold maxLen; omega)).mono ?_; rw [unhide HNT]; rintro e w6 ⟨rfl, hI6⟩)
          | (go_at_call_of 12 (strOf l); go_split_ands; refine (text_inv (W := W) (P := [(.slice (some ⟨g1, 0, none⟩) l.length c1, t), (.slice (some ⟨ga, oa, none⟩) l.length c0, l)]) (by assumption) (by unfold maxLen; omega)).mono ?_; rw [unhide HNL]; rintro e w6 ⟨rfl, hI6⟩))
      all_goals go_wp2
      all_goals go_ret
      all_goals (go_split_ands; exact ⟨rfl, hI6.1⟩)
end Go.Proofs.YtknlgclbdoencaaDoor
