/- The document's Check. -/
import Derived.Test.YtmpgaecnibakdaaDoorCk
namespace Go.Proofs.YtmpgaecnibakdaaDoor
open Go.ChangeShapes Go.WideShapes Go.ChangeAt Go.RowKit
attribute [local go_sem] Oper.semAt_some

/-- where the next index may begin -/
def leastOf (l : List Pc) : Nat → Int
  | 0 => 0
  | i + 1 => (l.getD i (0, [])).1 + 1
set_option maxHeartbeats 1000000 in
set_option maxRecDepth 10000 in
theorem chkD_any (a : Option Addr) (cap : Nat) (l : List Pc) (size : Int) (w : World) (hr : Ps w a l) (hl : l.length ≤ 100000) (hd : ∀ p ∈ l, p.2.length ≤ 1000000) :
    Calls Tryd.prog 18 #[.slice a l.length cap, .int .i64 size] w fun e w' => e = .returned (.int .i64 (chkR l size)) ∧ Below w.heap.size w w' := by
  by_cases hs0 : size < 0
  · have hc : chkR l size = 21 := if_neg (fun h => by omega)
    rw [hc]
    clear hr hc
    go_enter Tryd.func18, Tryd.ntmps18
    go_wp2
    go_ret
    exact ⟨rfl, Below.refl _ _⟩
  by_cases hs1 : 4611686018427387904 < size
  · have hc : chkR l size = 21 := if_neg (fun h => by omega)
    rw [hc]
    clear hr hc
    go_enter Tryd.func18, Tryd.ntmps18
    go_wp2
    go_ret
    exact ⟨rfl, Below.refl _ _⟩
  have HR := hide hr
  clear hr
  go_enter Tryd.func18, Tryd.ntmps18
  go_wp2
  go_loopw [5] (fun t wr => ∃ (i : Nat), i ≤ l.length ∧ t = .int .i64 i ∧ Upto l size (leastOf l i) i ∧ Below w.heap.size w wr) (fun t _ => l.length - (intOf t).toNat)
  case atStart => exact ⟨0, Nat.zero_le _, rfl, ⟨Int.le_refl _, by show (0 : Int) ≤ _; omega, rfl⟩, Below.refl _ _⟩
  case round =>
    obtain ⟨i, hi, rfl, hu, hb⟩ := hrel
    have HB := hide hb
    have hu0 := hu.1
    have hu1 := hu.2.1
    have HU := hide hu
    clear hu
    by_cases hlt : i < l.length
    · obtain ⟨⟨ix, da⟩, hx⟩ := get_some hlt
      have hps := (unhide HR).below hb
      obtain ⟨b, off, rfl, c0, c1, c2⟩ := hps.get hx
      have hlt' : (i : Int) < (l.length : Int) := by omega
      have hdl : da.length ≤ 1000000 := hd _ (List.mem_of_getElem? hx)
      have hzs : (tx da).size ≤ 1000000 := by rw [tx_size]; exact hdl
      have HX := hide hx
      have b1 := b_alloc wr (.cells #[.int .i64 ix, .string (tx da)] 58)
      have n1 := heap_alloc_new wr (.cells #[.int .i64 ix, .string (tx da)] 58)
      have HB1 := hide (below_then hb b1)
      have d0 : (wr.alloc (.cells #[.int .i64 ix, .string (tx da)] 58)).cell? ⟨wr.heap.size, 0, none⟩ = some (.int .i64 ix) := (cell_of_row _ _ 0 _ _ _ n1).trans rfl
      have d1 : (wr.alloc (.cells #[.int .i64 ix, .string (tx da)] 58)).cell? ⟨wr.heap.size, 1, none⟩ = some (.string (tx da)) := (cell_of_row _ _ 1 _ _ _ n1).trans rfl
      have HP2 := hide (hps.below b1)
      clear hx hb b1 n1 hps
      generalize hW : wr.alloc (.cells #[.int .i64 ix, .string (tx da)] 58) = w2 at *
      by_cases hA : ix < 0
      · have HE := hide ((unhide HU).bad (unhide HX) (by rw [okP_eq, decide_eq_false (by omega)]; rfl))
        clear hu0 hu1
        go_wp2
        go_quiet (fail)
        go_wp2
        go_ret
        exact ⟨by rw [unhide HE]; rfl, below_then (unhide HB1) (b_drewN _ _)⟩
      have hA' : decide (ix < 0) = false := decide_eq_false hA
      by_cases hB : 72057594037927936 ≤ ix
      · have HE := hide ((unhide HU).bad (unhide HX) (by rw [okP_eq, decide_eq_false (p := ix * 64 < size) (by omega), Bool.and_false]; rfl))
        clear hu0 hu1
        go_wp2
        go_quiet (fail)
        go_wp2
        go_ret
        exact ⟨by rw [unhide HE]; rfl, below_then (unhide HB1) (b_drewN _ _)⟩
      have hB' : decide (72057594037927936 ≤ ix) = false := decide_eq_false hB
      have hm0 : -9223372036854775808 ≤ ix * 64 := by omega
      have hm1 : ix * 64 ≤ 9223372036854775807 := by omega
      have hmw : IntKind.i64.wrap (ix * 64) = ix * 64 := by rw [IntKind.wrap_i64]; omega
      by_cases hS : size ≤ ix * 64
      · have HE := hide ((unhide HU).bad (unhide HX) (by rw [okP_eq, decide_eq_false (p := ix * 64 < size) (by omega), Bool.and_false]; rfl))
        clear hu0 hu1
        go_wp2
        go_quiet (fail)
        go_wp2
        go_ret
        exact ⟨by rw [unhide HE]; rfl, below_then (unhide HB1) (b_drewN _ _)⟩
      have hS' : decide (size ≤ ix * 64) = false := decide_eq_false hS
      by_cases hC : da.length = 64
      case neg =>
        have HE := hide ((unhide HU).bad (unhide HX) (by rw [okP_eq, decide_eq_false (p := da.length = 64) hC, Bool.and_false]; rfl))
        have hC' : ¬ ((tx da).size : Int) = 64 := by rw [tx_size]; omega
        have hC4 : (((tx da).size : Int) != 64) = true := bne_iff_ne.2 hC'
        clear hu0 hu1 hC'
        go_wp2
        go_quiet (fail)
        go_wp2
        go_ret
        exact ⟨by rw [unhide HE]; rfl, below_then (unhide HB1) (b_drewN _ _)⟩
      have hC' : ((tx da).size : Int) = 64 := by rw [tx_size]; omega
      have hC5 : (tx da).size = 64 := by rw [tx_size]; exact hC
      by_cases hi0 : 0 < i
      case pos =>
        obtain ⟨j, rfl⟩ : ∃ j, i = j + 1 := ⟨i - 1, by omega⟩
        obtain ⟨⟨iy, db⟩, hy⟩ := get_some (show j < l.length by omega)
        have hle : leastOf l (j + 1) = iy + 1 := by show (l.getD j (0, [])).1 + 1 = iy + 1; rw [List.getD_eq_getElem?_getD, hy]; rfl
        have hjl : (j : Int) < (l.length : Int) := by omega
        have hj0 : (0 : Int) < (j : Int) + 1 := by omega
        obtain ⟨b', off', he, y0, y1, y2⟩ := (unhide HP2).get hy
        injection he with he
        injection he with he1 he2
        subst he1 he2
        clear hy y1 y2
        rw [hle] at hu0 hu1
        by_cases hO : ix ≤ iy
        · have HE := hide ((unhide HU).bad (unhide HX) (by rw [okP_eq, decide_eq_false (p := leastOf l (j + 1) ≤ ix) (by omega)]; rfl))
          clear hu0 hu1
          go_wp2
          go_quiet (fail)
          go_wp2
          go_ret
          exact ⟨by rw [unhide HE]; rfl, below_then (unhide HB1) (b_drewN _ _)⟩
        · have hO' : decide (ix ≤ iy) = false := decide_eq_false hO
          go_wp2
          go_quiet (fail)
          have HB2 := hide (below_then (unhide HB1) (b_drewN w2 nq))
          have e0 := cell_keep d0 (b_drewN w2 nq)
          have e1 := cell_keep d1 (b_drewN w2 nq)
          generalize w2.drewN nq = w3 at *
          clear d0 d1 hW
          obtain ⟨q, hq⟩ : ∃ q, q = wr.heap.size := ⟨_, rfl⟩
          rw [← hq] at e0 e1 ⊢
          clear hq
          go_wp2
          go_loop [7] (fun t => ∃ k : Nat, k ≤ 64 ∧ t = .int .i64 k ∧ ∀ m : Nat, m < k → size ≤ ix * 64 + m → da.getD m 0 = 0) (fun t => 64 - (intOf t).toNat)
          case atStart => exact ⟨0, by omega, rfl, fun m hm => by omega⟩
          case round =>
            obtain ⟨k, hk, rfl, hall⟩ := hrel
            by_cases hk64 : k < 64
            · have hk64' : (k : Int) < 64 := by omega
              have hkS : k < (tx da).size := by omega
              have hkS' : (k : Int) < ((tx da).size : Int) := by omega
              have hat := tx_at da k hkS
              generalize hx0 : da.getD k 0 = x at *
              have hsum0 : -9223372036854775808 ≤ ix * 64 + (k : Int) := by omega
              have hsum1 : ix * 64 + (k : Int) ≤ 9223372036854775807 := by omega
              by_cases hge : size ≤ ix * 64 + (k : Int)
              · by_cases hz : x = 0
                · have HW : Hid (∀ m : Nat, m < k + 1 → size ≤ ix * 64 + m → da.getD m 0 = 0) := by
                    intro m hm hs
                    by_cases hmk : m < k
                    · exact hall m hmk hs
                    · obtain rfl : m = k := by omega
                      rw [hx0]
                      exact hz
                  have hz' : (x.toNat : Int) = 0 := by rw [hz]; rfl
                  have hz2 : ((x.toNat : Int) != 0) = false := by rw [hz]; rfl
                  clear hall hx0
                  go_wp2
                  go_round
                  case rel => exact ⟨k + 1, by omega, by go_num, unhide HW⟩
                  case measure => simp [intOf]; omega
                · have hz' : ¬ (x.toNat : Int) = 0 := fun e => hz (UInt8.toNat_inj.1 (by show x.toNat = 0; omega))
                  have hz2 : ((x.toNat : Int) != 0) = true := bne_iff_ne.2 hz'
                  have HE := hide ((unhide HU).bad (unhide HX) (by
                    rw [okP_eq]
                    have : (da.drop (insI ix size)).all (· == 0) = false := Bool.eq_false_iff.2 (fun h => hz (hx0 ▸ (all_drop hC).1 h k hk64 hge))
                    rw [this, Bool.and_false]))
                  clear hall hx0
                  go_wp2
                  go_ret
                  exact ⟨by rw [unhide HE]; rfl, unhide HB2⟩
              · have HW : Hid (∀ m : Nat, m < k + 1 → size ≤ ix * 64 + m → da.getD m 0 = 0) := by
                  intro m hm hs
                  by_cases hmk : m < k
                  · exact hall m hmk hs
                  · obtain rfl : m = k := by omega
                    exact absurd hs hge
                clear hall hx0
                go_wp2
                go_round
                case rel => exact ⟨k + 1, by omega, by go_num, unhide HW⟩
                case measure => simp [intOf]; omega
            · have hk64' : ¬ (k : Int) < 64 := by omega
              have hok : okP (leastOf l (j + 1)) size (ix, da) = true := by
                rw [okP_eq, decide_eq_true (by omega : leastOf l (j + 1) ≤ ix), decide_eq_true (by omega : ix * 64 < size), decide_eq_true hC]
                exact (all_drop hC).2 (fun m hm hs => hall m (by omega) hs)
              have hN := (unhide HU).next (unhide HX) hok (by omega) (by omega)
              have hle2 : leastOf l (j + 1 + 1) = ix + 1 := by show (l.getD (j + 1) (0, [])).1 + 1 = ix + 1; rw [List.getD_eq_getElem?_getD, unhide HX]; rfl
              have HN := hide hN
              have HL2 := hide hle2
              clear hall hok hN hle2
              go_wp2
              go_roundw
              case rel => exact ⟨j + 1 + 1, by omega, by go_num, by rw [unhide HL2]; exact unhide HN, unhide HB2⟩
              case measure => simp [intOf]; omega
      case neg =>
        obtain rfl : i = 0 := by omega
        have hle : leastOf l 0 = 0 := rfl
        have v0 := c0
        have v1 := c2
        simp only [Nat.zero_mul, Nat.add_zero] at v0 v1
        go_wp2
        go_quiet (fail)
        have HB2 := hide (below_then (unhide HB1) (b_drewN w2 nq))
        have e0 := cell_keep d0 (b_drewN w2 nq)
        have e1 := cell_keep d1 (b_drewN w2 nq)
        generalize w2.drewN nq = w3 at *
        clear d0 d1 hW
        obtain ⟨q, hq⟩ : ∃ q, q = wr.heap.size := ⟨_, rfl⟩
        rw [← hq] at e0 e1 ⊢
        clear hq
        go_wp2
        go_loop [7] (fun t => ∃ k : Nat, k ≤ 64 ∧ t = .int .i64 k ∧ ∀ m : Nat, m < k → size ≤ ix * 64 + m → da.getD m 0 = 0) (fun t => 64 - (intOf t).toNat)
        case atStart => exact ⟨0, by omega, rfl, fun m hm => by omega⟩
        case round =>
          obtain ⟨k, hk, rfl, hall⟩ := hrel
          by_cases hk64 : k < 64
          · have hk64' : (k : Int) < 64 := by omega
            have hkS : k < (tx da).size := by omega
            have hkS' : (k : Int) < ((tx da).size : Int) := by omega
            have hat := tx_at da k hkS
            generalize hx0 : da.getD k 0 = x at *
            have hsum0 : -9223372036854775808 ≤ ix * 64 + (k : Int) := by omega
            have hsum1 : ix * 64 + (k : Int) ≤ 9223372036854775807 := by omega
            by_cases hge : size ≤ ix * 64 + (k : Int)
            · by_cases hz : x = 0
              · have HW : Hid (∀ m : Nat, m < k + 1 → size ≤ ix * 64 + m → da.getD m 0 = 0) := by
                  intro m hm hs
                  by_cases hmk : m < k
                  · exact hall m hmk hs
                  · obtain rfl : m = k := by omega
                    rw [hx0]
                    exact hz
                have hz' : (x.toNat : Int) = 0 := by rw [hz]; rfl
                have hz2 : ((x.toNat : Int) != 0) = false := by rw [hz]; rfl
                clear hall hx0
                go_wp2
                go_round
                case rel => exact ⟨k + 1, by omega, by go_num, unhide HW⟩
                case measure => simp [intOf]; omega
              · have hz' : ¬ (x.toNat : Int) = 0 := fun e => hz (UInt8.toNat_inj.1 (by show x.toNat = 0; omega))
                have hz2 : ((x.toNat : Int) != 0) = true := bne_iff_ne.2 hz'
                have HE := hide ((unhide HU).bad (unhide HX) (by
                  rw [okP_eq]
                  have : (da.drop (insI ix size)).all (· == 0) = false := Bool.eq_false_iff.2 (fun h => hz (hx0 ▸ (all_drop hC).1 h k hk64 hge))
                  rw [this, Bool.and_false]))
                clear hall hx0
                go_wp2
                go_ret
                exact ⟨by rw [unhide HE]; rfl, unhide HB2⟩
            · have HW : Hid (∀ m : Nat, m < k + 1 → size ≤ ix * 64 + m → da.getD m 0 = 0) := by
                intro m hm hs
                by_cases hmk : m < k
                · exact hall m hmk hs
                · obtain rfl : m = k := by omega
                  exact absurd hs hge
              clear hall hx0
              go_wp2
              go_round
              case rel => exact ⟨k + 1, by omega, by go_num, unhide HW⟩
              case measure => simp [intOf]; omega
          · have hk64' : ¬ (k : Int) < 64 := by omega
            have hok : okP (leastOf l (0)) size (ix, da) = true := by
              rw [okP_eq, decide_eq_true (by omega : leastOf l (0) ≤ ix), decide_eq_true (by omega : ix * 64 < size), decide_eq_true hC]
              exact (all_drop hC).2 (fun m hm hs => hall m (by omega) hs)
            have hN := (unhide HU).next (unhide HX) hok (by omega) (by omega)
            have hle2 : leastOf l (0 + 1) = ix + 1 := by show (l.getD (0) (0, [])).1 + 1 = ix + 1; rw [List.getD_eq_getElem?_getD, unhide HX]; rfl
            have HN := hide hN
            have HL2 := hide hle2
            clear hall hok hN hle2
            go_wp2
            go_roundw
            case rel => exact ⟨0 + 1, by omega, by go_num, by rw [unhide HL2]; exact unhide HN, unhide HB2⟩
            case measure => simp [intOf]; omega
    · have hlt' : ¬ (i : Int) < (l.length : Int) := by omega
      obtain rfl : i = l.length := by omega
      have HE := hide ((unhide HU).done (by omega) (by omega))
      clear hb hu0 hu1
      go_wp2
      go_ret
      exact ⟨by rw [unhide HE]; rfl, unhide HB⟩
end Go.Proofs.YtmpgaecnibakdaaDoor
