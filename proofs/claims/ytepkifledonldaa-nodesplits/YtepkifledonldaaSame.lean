/- Same, of two nodes that have the same entries. -/
import Derived.Test.YtepkifledonldaaDecode
import Derived.Deep.QuietTactic
import Derived.BigQuiet
namespace Go.Proofs.Ytepkifledonldaa
open Go.ChangeShapes Go.WideShapes Go.ChangeAt Go.RowKit


set_option maxRecDepth 10000 in
set_option maxHeartbeats 4000000 in
theorem same_any (n : Nd) (ai ak bi bk : Option Addr) (ci ck di dk : Nat) (w : World) (ha : Has w n ai ak) (hb : Has w n bi bk) (hil : n.its.length ≤ 1000000) (hkl : n.kds.length ≤ 1000000) :
    Calls Try.prog 18 #[.agg #[.bool n.leaf, .slice ai n.its.length ci, .slice ak n.kds.length ck], .agg #[.bool n.leaf, .slice bi n.its.length di, .slice bk n.kds.length dk]] w fun e w' => e = .returned (.bool true) ∧ Below w.heap.size w w' := by
  obtain ⟨L, its, kds⟩ := n
  simp only at hil hkl
  have hb0 := below_alloc w (.cells #[.bool L, .slice ai its.length ci, .slice ak kds.length ck] 25)
  have hb1 := below_alloc (w.alloc (.cells #[.bool L, .slice ai its.length ci, .slice ak kds.length ck] 25)) (.cells #[.bool L, .slice bi its.length di, .slice bk kds.length dk] 25)
  have HA := hide ((ha.grow hb0).grow hb1)
  have HC := hide ((hb.grow hb0).grow hb1)
  have HB := hide (below_then hb0 hb1)
  have n1 := (Nblk.new w L ai ak its.length ci kds.length ck).below hb1
  have n2 := Nblk.new (w.alloc (.cells #[.bool L, .slice ai its.length ci, .slice ak kds.length ck] 25)) L bi bk its.length di kds.length dk
  have hsz : (w.alloc (.cells #[.bool L, .slice ai its.length ci, .slice ak kds.length ck] 25)).heap.size = w.heap.size + 1 := by simp
  rw [hsz] at n2
  clear hb0 hb1 ha hb hsz
  go_enter Try.func18, Try.ntmps18
  go_wp2_with fail
  obtain ⟨p, hp⟩ : ∃ y, y = w.heap.size := ⟨_, rfl⟩
  rw [← hp] at n1 n2 ⊢
  clear hp
  generalize (w.alloc (.cells #[.bool L, .slice ai its.length ci, .slice ak kds.length ck] 25)).alloc (.cells #[.bool L, .slice bi its.length di, .slice bk kds.length dk] 25) = w2 at *
  go_loopw [5] (fun t wr => ∃ k : Nat, k ≤ its.length ∧ t = .int .i64 k ∧ Below w2.heap.size w2 wr) (fun t _ => its.length - (intOf t).toNat)
  case atStart => exact ⟨0, Nat.zero_le _, rfl, Below.refl _ _⟩
  case round =>
    obtain ⟨k, hk, rfl, hbel⟩ := hrel
    have HBel1 := hide hbel
    have e1 := (n1.below hbel).cell1
    have e2 := (n2.below hbel).cell1
    clear hbel
    by_cases hlt : k < its.length
    · obtain ⟨b, off, rfl, hr⟩ := (unhide HA).1.at hlt
      obtain ⟨b', off', rfl, hr'⟩ := (unhide HC).1.at hlt
      obtain ⟨⟨key, val⟩, hx⟩ := get_some hlt
      have c0 := cell_keep (hr k _ hx).1 (unhide HBel1)
      have c1 := cell_keep (hr k _ hx).2 (unhide HBel1)
      have d0 := cell_keep (hr' k _ hx).1 (unhide HBel1)
      have d1 := cell_keep (hr' k _ hx).2 (unhide HBel1)
      simp only at c0 c1 d0 d1
      skip
      have v4 : (k : Int) < (its.length : Int) := by omega
      have n1' := hide n1
      have n2' := hide n2
      clear hr hr' hx n1 n2 HA HC
      go_wp2_with fail
      go_quiet (fail)
      go_wp2
      go_roundw
      case rel => exact ⟨k + 1, by omega, by go_num, (unhide HBel1).trans (below_drewN (Below.refl _ _) _)⟩
      case measure => simp [intOf]; omega
    · obtain rfl : k = its.length := by omega
      go_wp2
      go_loopw [6] (fun t wr => ∃ k : Nat, k ≤ kds.length ∧ t = .int .i64 k ∧ Below w2.heap.size w2 wr) (fun t _ => kds.length - (intOf t).toNat)
      case atStart => exact ⟨0, Nat.zero_le _, rfl, unhide HBel1⟩
      case round =>
        obtain ⟨k, hk, rfl, hbel⟩ := hrel
        have HBel2 := hide hbel
        have e1 := (n1.below hbel).cell2
        have e2 := (n2.below hbel).cell2
        clear hbel
        by_cases hlt : k < kds.length
        · obtain ⟨b, off, rfl, hr⟩ := (unhide HA).2.at hlt
          obtain ⟨b', off', rfl, hr'⟩ := (unhide HC).2.at hlt
          obtain ⟨⟨key, val⟩, hx⟩ := get_some hlt
          have c0 := cell_keep (hr k _ hx).1 (unhide HBel2)
          have c1 := cell_keep (hr k _ hx).2 (unhide HBel2)
          have d0 := cell_keep (hr' k _ hx).1 (unhide HBel2)
          have d1 := cell_keep (hr' k _ hx).2 (unhide HBel2)
          simp only at c0 c1 d0 d1
          skip
          have v4 : (k : Int) < (kds.length : Int) := by omega
          have n1' := hide n1
          have n2' := hide n2
          clear hr hr' hx n1 n2 HA HC
          go_wp2_with fail
          go_quiet (fail)
          go_wp2
          go_roundw
          case rel => exact ⟨k + 1, by omega, by go_num, (unhide HBel2).trans (below_drewN (Below.refl _ _) _)⟩
          case measure => simp [intOf]; omega
        · obtain rfl : k = kds.length := by omega
          go_wp2
          go_ret
          exact ⟨rfl, below_then (unhide HB) (unhide HBel2)⟩
end Go.Proofs.Ytepkifledonldaa
