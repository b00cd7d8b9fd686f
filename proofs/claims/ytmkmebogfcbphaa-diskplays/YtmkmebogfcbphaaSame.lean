/- The law's 'same': a disk and the document's show the same. -/
import Derived.Test.YtmkmebogfcbphaaPair
namespace Go.Proofs.Ytmkmebogfcbphaa
open Go.ChangeShapes Go.WideShapes Go.ChangeAt Go.RowKit

variable {d r : Nat} {m : Dk} {k : Nat} {fp rp : List Nat}

set_option maxHeartbeats 4000000 in
set_option maxRecDepth 20000 in
theorem same_any (W w : World) (h : Pair W w d r m m k fp rp) (hk : k ≤ 1000000) :
    Calls Try.prog 13 #[.pointer (some ⟨d, 0, none⟩), .pointer (some ⟨r, 0, none⟩)] w fun e w' => e = .returned (.bool true) ∧ Below w.heap.size w w' := by
  obtain ⟨fb, lb, dv, hA, _⟩ := h.s.disk
  obtain ⟨ov, pv, hR, _⟩ := id h.ref
  have hfew := h.s.disk.few
  have c0 := hR.cell0
  have c1 := hR.cell1
  have c3 := hR.cell3
  obtain ⟨ao, capo, rfl⟩ := ownsRow_form hR.old
  obtain ⟨ap, capp, rfl⟩ := ownsRow_form hR.op
  have HA : Hid (DiskAt w.drew d m k fb lb dv) := hA.grow (Below.refl _ _).drew
  have HR := hide hR
  have HP := hide h
  have HF : Hid (m.op.length ≤ 1000000) := by show m.op.length ≤ 1000000; omega
  have hmany := hR.ok.many
  clear h hA hR hfew
  go_enter Try.func13, Try.ntmps13
  go_wp2_with fail
  have d0 : w.drew.cell? ⟨r, 0, none⟩ = some (.slice ao m.old.length capo) := c0
  have d1 : w.drew.cell? ⟨r, 1, none⟩ = some (.slice ap m.op.length capp) := c1
  have d3 : w.drew.cell? ⟨r, 3, none⟩ = some (.bool m.gone) := c3
  go_region_held3 (fun w' => w' = w.drew ∧ w'.cell? ⟨r, 0, none⟩ = some (.slice ao m.old.length capo) ∧ w'.cell? ⟨r, 1, none⟩ = some (.slice ap m.op.length capp) ∧ w'.cell? ⟨r, 3, none⟩ = some (.bool m.gone))
    (first | assumption | exact ⟨rfl, d0, d1, d3⟩)
    (first
      | (go_at_call 24; go_split_ands; refine (sectors_any _ (unhide HA)).mono ?_; rintro e w1 ⟨rfl, rfl⟩)
      | (go_at_call 19; go_split_ands; refine (open_any _ (unhide HA)).mono ?_; rintro e w1 ⟨rfl, rfl⟩)
      | (go_at_call 20; go_split_ands; refine (down_any _ (unhide HA)).mono ?_; rintro e w1 ⟨rfl, rfl⟩))
  go_wp2_with fail
  go_loopw [5] (fun j wr => ∃ n : Int, -1 ≤ n ∧ n ≤ 12 ∧ j = .int .i64 n ∧ DiskAt wr d m k fb lb dv ∧ RefAt wr r m (.slice ao m.old.length capo) (.slice ap m.op.length capp) ∧ Below w.heap.size w wr) (fun j _ => (12 - intOf j).toNat)
  case atStart => exact ⟨-1, by omega, by omega, rfl, unhide HA, (unhide HR).same (fun _ _ => rfl), (Below.refl _ _).drew⟩
  case round =>
    clear HA HR d0 d1 d3 c0 c1 c3
    obtain ⟨n, hn1, hn2, rfl, hA, hR, hb⟩ := hrel
    have c0 := hR.cell0
    have HA := hide hA
    have HR := hide hR
    have HB := hide hb
    clear hA hR hb
    by_cases h1 : n ≤ (m.old.length : Int)
    · by_cases h2 : n < 12
      · go_wp2_with fail
        refine (read_any n _ (unhide HA)).mono ?_
        rintro e w1 ⟨rfl, hb1⟩
        have HA1 := hide ((unhide HA).grow hb1)
        have HR1 : Hid (RefAt w1 r m (.slice ao m.old.length capo) (.slice ap m.op.length capp)) := (unhide HR).same (fun x hx => hb1.block x ((unhide HR).lt x hx))
        have HB1 : Hid (Below w.heap.size w w1) := (unhide HB).trans (hb1.mono (unhide HB).size)
        clear hb1
        go_wp2_with fail
        refine (rread_any n _ (unhide HR1) (unhide HF)).mono ?_
        rintro e w2 ⟨rfl, rfl⟩
        generalize (readM m n).1 = R1 at *
        generalize (readM m n).2 = R2 at *
        go_wp2
        go_roundw
        case rel => exact ⟨n + 1, by omega, by omega, by go_num, unhide HA1, unhide HR1, unhide HB1⟩
        case measure => simp [intOf]; omega
      · have h2' : ¬ n < 12 := h2
        go_wp2
        go_ret
        exact ⟨rfl, unhide HB⟩
    · go_wp2
      go_ret
      exact ⟨rfl, unhide HB⟩
end Go.Proofs.Ytmkmebogfcbphaa
