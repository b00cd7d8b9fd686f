/- The document's byte at a place; two rows held against each other. -/
import Derived.Test.YtmpgaecnibakdaaDoorOw
namespace Go.Proofs.YtmpgaecnibakdaaDoor
open Go.ChangeShapes Go.WideShapes Go.ChangeAt Go.RowKit
attribute [local go_sem] Oper.semAt_some

theorem Ps.get {w : World} {a : Option Addr} {l : List Pc} (h : Ps w a l) {i : Nat} {ix : Int} {da : List UInt8} (hx : l[i]? = some (ix, da)) : ∃ b off, a = some ⟨b, off, none⟩ ∧ w.cell? ⟨b, off + i * 2, none⟩ = some (.int .i64 ix) ∧ w.cell? ⟨b, off + (i * 2 + 1), none⟩ = some (.string (tx da)) ∧ w.cell? ⟨b, off + i * 2 + 1, none⟩ = some (.string (tx da)) := by
  obtain ⟨b, off, rfl, hc⟩ := Tw.at h (List.getElem?_eq_some_iff.1 hx).1
  have c := hc i _ hx
  exact ⟨b, off, rfl, c.1, c.2, by rw [Nat.add_assoc]; exact c.2⟩
theorem tx_at (d : List UInt8) (k : Nat) (h : k < (tx d).size) : (tx d)[k] = d.getD k 0 := by
  have h' : k < d.length := by rw [tx_size] at h; exact h
  rw [List.getD_eq_getElem?_getD, List.getElem?_eq_getElem h']
  rfl

set_option maxHeartbeats 2000000 in
theorem at_any (a : Option Addr) (cap : Nat) (l : List Pc) (place : Int) (w : World) (hr : Ps w a l) (hl : l.length ≤ 100000) (hs : Sorted l) (h64 : ∀ p ∈ l, p.2.length = 64) (h0 : 0 ≤ place) (h1 : place ≤ 9223372036854775807) :
    Calls Tryd.prog 29 #[.slice a l.length cap, .int .i64 place] w fun e w' => e = .returned (.int .u8 ((atR l place).toNat : Int)) ∧ w' = w := by
  have HR := hide hr
  obtain ⟨k, hk⟩ : ∃ k : Nat, place % 64 = (k : Int) := ⟨(place % 64).toNat, by omega⟩
  have hk64 : k < 64 := by omega
  have hmod : place.tmod 64 = (k : Int) := by rw [Int.tmod_eq_emod_of_nonneg h0, hk]
  have hdiv : place.tdiv 64 = place / 64 := Int.tdiv_eq_ediv_of_nonneg h0
  clear hr
  go_enter Tryd.func29, Tryd.ntmps29
  go_wp2
  go_loop [5] (fun j => ∃ i : Nat, i ≤ l.length ∧ j = .int .i64 i ∧ ∀ k x, k < i → l[k]? = some x → x.1 ≠ place / 64) (fun j => l.length - (intOf j).toNat)
  case atStart => exact ⟨0, Nat.zero_le _, rfl, fun k x hk => by omega⟩
  case round =>
    obtain ⟨i, hi, rfl, hall⟩ := hrel
    by_cases hlt : i < l.length
    · obtain ⟨⟨ix, da⟩, hx⟩ := get_some hlt
      obtain ⟨b, off, rfl, c0, c1, c2⟩ := (unhide HR).get hx
      have hlt' : (i : Int) < (l.length : Int) := by omega
      have hd : da.length = 64 := h64 _ (List.mem_of_getElem? hx)
      by_cases hb : ix = place / 64
      · have HW : Hid (atR l place = da.getD k 0) := by
          show _ = _
          rw [at_mem hs (List.mem_of_getElem? hx) hb]
          congr 1
          omega
        have hks : (k : Int) < ((tx da).size : Int) := by rw [tx_size]; omega
        have hks' : k < (tx da).size := by rw [tx_size]; omega
        have hat := tx_at da k hks'
        clear hx hall hd
        have hw : place / 64 ≤ 9223372036854775807 := by omega
        have hw' : -9223372036854775808 ≤ place / 64 := by omega
        go_wp2
        go_ret
        exact ⟨by rw [unhide HW]; rfl, rfl⟩
      · have hw : place / 64 ≤ 9223372036854775807 := by omega
        have hw' : -9223372036854775808 ≤ place / 64 := by omega
        have HW : Hid (∀ k x, k < i + 1 → l[k]? = some x → x.1 ≠ place / 64) := by
          intro k x hk hkx
          by_cases hki : k < i
          · exact hall k x hki hkx
          · obtain rfl : k = i := by omega
            rw [hx] at hkx
            cases hkx
            exact hb
        clear hx hall hd
        go_wp2
        go_round
        case rel => exact ⟨i + 1, by omega, by go_num, unhide HW⟩
        case measure => simp [intOf]; omega
    · have hlt' : ¬ (i : Int) < (l.length : Int) := by omega
      have HW : Hid (atR l place = 0) := by
        show _ = _
        apply at_none
        intro x hx
        obtain ⟨k, hk, e⟩ := List.mem_iff_getElem.1 hx
        exact hall k x (by omega) (by rw [List.getElem?_eq_getElem hk, e])
      clear hall
      go_wp2
      go_ret
      exact ⟨by rw [unhide HW]; rfl, rfl⟩

set_option maxHeartbeats 2000000 in
theorem same_any (a a' : Option Addr) (c c' : Nat) (l r : List Pc) (w : World) (hr : Ps w a l) (hr' : Ps w a' r) (hl : l.length ≤ 9223372036854775807) :
    Calls Tryd.prog 16 #[.slice a l.length c, .slice a' r.length c'] w fun e w' => e = .returned (.bool (decide (l = r))) ∧ Below w.heap.size w w' := by
  by_cases hn : l.length = r.length
  case neg =>
    have hne : l ≠ r := fun e => hn (by rw [e])
    rw [decide_eq_false hne]
    have hn' : ((l.length : Int) == (r.length : Int)) = false := beq_eq_false_iff_ne.2 (by omega)
    have hn2 : ¬ (l.length : Int) = (r.length : Int) := by omega
    clear hr hr' hne
    go_enter Tryd.func16, Tryd.ntmps16
    go_wp2
    go_ret
    exact ⟨rfl, Below.refl _ _⟩
  have HR := hide hr
  have HR' := hide hr'
  have hn' : (l.length : Int) = (r.length : Int) := by omega
  clear hr hr'
  go_enter Tryd.func16, Tryd.ntmps16
  go_wp2
  go_loopw [5] (fun j wr => ∃ i : Nat, i ≤ l.length ∧ j = .int .i64 i ∧ (∀ k, k < i → l[k]? = r[k]?) ∧ Below w.heap.size w wr) (fun j _ => l.length - (intOf j).toNat)
  case atStart => exact ⟨0, Nat.zero_le _, rfl, fun k hk => by omega, Below.refl _ _⟩
  case round =>
    obtain ⟨i, hi, rfl, hall, hb⟩ := hrel
    have HB := hide hb
    by_cases hlt : i < l.length
    · obtain ⟨⟨ix, da⟩, hx⟩ := get_some hlt
      obtain ⟨⟨iy, db⟩, hy⟩ := get_some (show i < r.length by omega)
      obtain ⟨b, off, rfl, c0, c1, c2⟩ := ((unhide HR).below hb).get hx
      obtain ⟨b', off', rfl, d0, d1, d2⟩ := ((unhide HR').below hb).get hy
      have hlt' : (i : Int) < (l.length : Int) := by omega
      have hlt2 : (i : Int) < (r.length : Int) := by omega
      by_cases he : ix = iy ∧ da = db
      · obtain ⟨rfl, rfl⟩ := he
        have HW : Hid (∀ k, k < i + 1 → l[k]? = r[k]?) := by
          intro k hk
          by_cases hki : k < i
          · exact hall k hki
          · obtain rfl : k = i := by omega
            rw [hx, hy]
        clear hx hy hall hb
        go_wp2
        go_quiet (fail)
        go_wp2
        go_roundw
        case rel => exact ⟨i + 1, by omega, by go_num, unhide HW, below_then (unhide HB) (b_drewN _ _)⟩
        case measure => simp [intOf]; omega
      · have HW : Hid (decide (l = r) = false) := by
          apply decide_eq_false
          intro e
          rw [e, hy] at hx
          injection hx with e1
          injection e1 with e2 e3
          exact he ⟨e2.symm, e3.symm⟩
        clear hx hy hall hb
        by_cases h1 : ix = iy
        · have h2 : ((tx da).toList == (tx db).toList) = false := str_ne (fun e => he ⟨h1, tx_inj e⟩)
          subst h1
          go_wp2
          go_quiet (fail)
          go_wp2
          go_ret
          exact ⟨by rw [unhide HW]; rfl, below_then (unhide HB) (b_drewN _ _)⟩
        · go_wp2
          go_quiet (fail)
          go_wp2
          go_ret
          exact ⟨by rw [unhide HW]; rfl, below_then (unhide HB) (b_drewN _ _)⟩
    · have hlt' : ¬ (i : Int) < (l.length : Int) := by omega
      have hlt2 : ¬ (i : Int) < (r.length : Int) := by omega
      have HW : Hid (decide (l = r) = true) := by
        apply decide_eq_true
        apply List.ext_getElem?
        intro k
        by_cases hk : k < i
        · exact hall k hk
        · rw [List.getElem?_eq_none (by omega), List.getElem?_eq_none (by omega)]
      clear hall hb
      go_wp2
      go_ret
      exact ⟨by rw [unhide HW]; rfl, unhide HB⟩
end Go.Proofs.YtmpgaecnibakdaaDoor
