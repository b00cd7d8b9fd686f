/- The walk of the law CrcPieces. -/
import Derived.Test.YtknlgclbdoencaaDoorInv
import Derived.Deep.RegionWith
namespace Go.Proofs.YtknlgclbdoencaaDoor
open Go.ChangeShapes Go.WideShapes Go.ChangeAt Go.RowKit

set_option maxHeartbeats 400000 in
theorem pieces_long (a0 a1 a2 : Option Addr) (n0 n1 n2 c0 c1 c2 : Nat) (w : World) (hT : Tab w) (h : 8192 < n0 ∨ 8192 < n1 ∨ 8192 < n2)
    (h0 : n0 ≤ 9223372036854775807) (h1 : n1 ≤ 9223372036854775807) (h2 : n2 ≤ 9223372036854775807) :
    Calls Tryd.prog 4 #[.slice a0 n0 c0, .slice a1 n1 c1, .slice a2 n2 c2] w fun e w' => e = .returned (.bool true) ∧ Below w.heap.size w w' := by
  have HA := hide (awake_any w hT)
  clear hT
  by_cases k0 : 8192 < n0
  · clear h
    go_enter Tryd.func4, Tryd.ntmps4
    go_wp2_with (go_at_call 8; refine (unhide HA).mono ?_; rintro e w' ⟨rfl, rfl⟩)
    go_ret
    exact ⟨rfl, Below.refl _ _⟩
  · by_cases k1 : 8192 < n1
    · clear h
      go_enter Tryd.func4, Tryd.ntmps4
      go_wp2_with (go_at_call 8; refine (unhide HA).mono ?_; rintro e w' ⟨rfl, rfl⟩)
      go_ret
      exact ⟨rfl, Below.refl _ _⟩
    · have k2 : 8192 < n2 := by omega
      clear h
      go_enter Tryd.func4, Tryd.ntmps4
      go_wp2_with (go_at_call 8; refine (unhide HA).mono ?_; rintro e w' ⟨rfl, rfl⟩)
      go_ret
      exact ⟨rfl, Below.refl _ _⟩

theorem bn_append (s t : ByteArray) : bn (s ++ t) = bn s ++ bn t := by
  unfold bn
  rw [ByteArray.data_append, Array.toList_append, List.map_append]

set_option maxHeartbeats 1000000 in
theorem pieces_short (a0 a1 a2 : Option Addr) (c0 c1 c2 : Nat) (l0 l1 l2 : List Nat) (W : World) (hT : Tab W) (h0 : l0.length ≤ 8192) (h1 : l1.length ≤ 8192) (h2 : l2.length ≤ 8192)
    (b0 : ∀ b ∈ l0, b < 256) (b1 : ∀ b ∈ l1, b < 256) (b2 : ∀ b ∈ l2, b < 256)
    (p0 : Byt W (.slice a0 l0.length c0) l0) (p1 : Byt W (.slice a1 l1.length c1) l1) (p2 : Byt W (.slice a2 l2.length c2) l2) :
    Calls Tryd.prog 4 #[.slice a0 l0.length c0, .slice a1 l1.length c1, .slice a2 l2.length c2] W fun e w' => e = .returned (.bool true) ∧ Below W.heap.size W w' := by
  have hI : Inv W W [(.slice a0 l0.length c0, l0), (.slice a1 l1.length c1, l1), (.slice a2 l2.length c2, l2)] := Inv.start hT (by
    intro p hp
    simp at hp
    rcases hp with rfl | rfl | rfl
    · exact part_of p0 b0 h0
    · exact part_of p1 b1 h1
    · exact part_of p2 b2 h2)
  have k0 := conv_inv hI (v := .slice a0 l0.length c0) (l := l0) (by simp)
  have k1 := conv_inv hI (v := .slice a1 l1.length c1) (l := l1) (by simp)
  have k2 := conv_inv hI (v := .slice a2 l2.length c2) (l := l2) (by simp)
  have z0 : (strOf l0).size ≤ 8192 := by rw [strOf_size]; exact h0
  have z1 : (strOf l1).size ≤ 8192 := by rw [strOf_size]; exact h1
  have z2 : (strOf l2).size ≤ 8192 := by rw [strOf_size]; exact h2
  have HN : Hid (bn (strOf l0 ++ strOf l1 ++ strOf l2) = l0 ++ l1 ++ l2) := by
    show _ = _
    rw [bn_append, bn_append, bn_strOf l0 b0, bn_strOf l1 b1, bn_strOf l2 b2]
  have HN0 := hide (bn_strOf l0 b0)
  have HB1 := hide b1
  have HA := hide (awake_any W hT)
  have HI := hide hI
  have HS01 := hide (Crc.sum_append (l0 ++ l1) l2)
  have hs01 := Crc.sum_lt (l0 ++ l1) (by intro b hb; rcases List.mem_append.1 hb with h | h; exact b0 b h; exact b1 b h)
  have HS12 : Hid (Crc.sum (l0 ++ l1 ++ l2) = Crc.more (Crc.sum l0) (l1 ++ l2)) := by
    show _ = _
    rw [List.append_assoc, Crc.sum_append]
  have hs0 := Crc.sum_lt l0 b0
  clear hT p0 p1 p2 b0 b1 b2 hI
  go_enter Tryd.func4, Tryd.ntmps4
  go_wp2_with (first
    | (go_at_call 8; refine (unhide HA).mono ?_; rintro e w' ⟨rfl, hw⟩; have hw := hw.symm; subst hw)
    | (go_at_call 9; refine (refSum_inv (unhide HI) (by simp [maxLen]; omega)).mono ?_; rw [unhide HN]; rintro e w' ⟨rfl, hI⟩)
    | (go_at_call_of 11 a0; refine (own_inv (l := l0) (by assumption) (by simp) h0).mono ?_; rintro e w' ⟨x0, y0, rfl, hI, hown⟩)
    | (go_at_call_of 11 a1; refine (own_inv (l := l1) (by assumption) (by simp) h1).mono ?_; rintro e w' ⟨x1, y1, rfl, hI, hown⟩)
    | (go_at_call_of 11 a2; refine (own_inv (l := l2) (by assumption) (by simp) h2).mono ?_; rintro e w' ⟨x2, y2, rfl, hI, hown⟩)
    | (go_at_call_of 10 (3 : Nat); refine (sum_inv3 (l1 := l0) (l2 := l1) (l3 := l2) (by assumption) (by simp) (by simp) (by simp)).mono ?_; rintro e w' ⟨rfl, hI⟩)
    | (go_at_call_of 10 (2 : Nat); refine (sum_inv2 (l1 := l0) (l2 := l1) (by assumption) (by simp) (by simp)).mono ?_; rintro e w' ⟨rfl, hI⟩)
    | (go_at_call_of 13 (Crc.sum (l0 ++ l1)); refine (more_inv (l := l2) (by assumption) (by simp) (by omega)).mono ?_; rw [Int.toNat_natCast, ← unhide HS01]; rintro e w' ⟨rfl, hI⟩; have k0 := conv_inv hI (v := .slice a0 l0.length c0) (l := l0) (by simp))
    | (go_at_call 12; refine (text_inv (by assumption) (by simp [maxLen]; omega)).mono ?_; rw [unhide HN0]; rintro e w' ⟨rfl, hI⟩)
    | (at_builtin; refine app_law (src := .slice a2 l2.length c2) (l := l1) (r := l2) rfl _ _ rfl rfl rfl hI hown (unhide HB1) (by simp) (by omega) ?_; intro x9 y9 w9 hI hown)
    | (go_at_call_of 13 (Crc.sum l0); refine (more_inv (l := l1 ++ l2) (by assumption) (by simp) (by omega)).mono ?_; rw [Int.toNat_natCast, ← unhide HS12]; rintro e w' ⟨rfl, hI⟩))
  go_ret
  exact ⟨rfl, hI.1⟩
end Go.Proofs.YtknlgclbdoencaaDoor
