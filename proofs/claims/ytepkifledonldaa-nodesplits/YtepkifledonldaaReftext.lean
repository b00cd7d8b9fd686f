
/- What the document's own reader answers of a text. -/
import Derived.Test.YtepkifledonldaaRefreader
namespace Go.Proofs.Ytepkifledonldaa
open Go.ChangeShapes Go.WideShapes Go.ChangeAt Go.RowKit

set_option maxRecDepth 10000 in
set_option maxHeartbeats 4000000 in
theorem refText_in (r : Nat) (L : ByteArray) (most : Int) (w : World) (hr : Rm w r L 0) (hL : L.size ≤ 1000000) (hm : -9223372036854775808 ≤ most ∧ most ≤ 9223372036854775807) :
    Calls Try.prog 31 #[.pointer (some ⟨r, 0, none⟩), .int .i64 most] w fun x w' => x = .returned (.string (textOf L most).1) ∧ ToldM w w' r (L.extract (textOf L most).2.1 L.size) (textOf L most).2.2 := by
  have h0 := hr.cell0
  have h1 := hr.cell1
  have f0 := hr.free 0
  have f1 := hr.free 1
  have HR := hide hr
  clear hr
  have hS := refScan_any L w (by unfold maxLen; omega)
  rcases scan_cases L with ⟨n, k, hsc, hn, hk0, hk10, hks, hx1, hx2⟩ | ⟨er, hsc, hne0, he1, he2⟩
  · clear hx1 hx2
    rw [hsc] at hS
    have HS := hide hS
    clear hS
    by_cases hlong : most < 0 ∨ most < (n : Int)
    · rw [textOf_long hsc hlong]
      rw [show L.extract 0 L.size = L from ext0 L]
      clear hsc
      by_cases hneg : most < 0
      · clear hlong
        go_enter Try.func31, Try.ntmps31
        go_wp2_with (go_at_call 58; refine (unhide HS).mono ?_; rintro x w' ⟨rfl, hw⟩; have hw := hw.symm; subst hw)
        go_ret
        exact ⟨rfl, .err (unhide HR) 22⟩
      · have hlt : most < (n : Int) := by omega
        clear hlong
        go_enter Try.func31, Try.ntmps31
        go_wp2_with (go_at_call 58; refine (unhide HS).mono ?_; rintro x w' ⟨rfl, hw⟩; have hw := hw.symm; subst hw)
        go_ret
        exact ⟨rfl, .err (unhide HR) 22⟩
    · have hneg : ¬ most < 0 := by omega
      have hge : ¬ most < (n : Int) := by omega
      by_cases hfew : L.size - k < n
      · rw [textOf_short hsc hlong hfew]
        rw [show L.extract 0 L.size = L from ext0 L]
        clear hsc hlong
        go_enter Try.func31, Try.ntmps31
        go_wp2_with (go_at_call 58; refine (unhide HS).mono ?_; rintro x w' ⟨rfl, hw⟩; have hw := hw.symm; subst hw)
        go_ret
        exact ⟨rfl, .err (unhide HR) 20⟩
      · rw [textOf_ok hsc hlong hfew]
        clear hsc hlong
        have hsum : k + n ≤ L.size := by omega
        go_enter Try.func31, Try.ntmps31
        go_wp2_with (go_at_call 58; refine (unhide HS).mono ?_; rintro x w' ⟨rfl, hw⟩; have hw := hw.symm; subst hw)
        go_ret
        exact ⟨rfl, .left (unhide HR) _⟩
  · rw [hsc] at hS
    have HS := hide hS
    clear hS
    rw [textOf_bad most hsc hne0]
    rw [show L.extract 0 L.size = L from ext0 L]
    clear hsc
    have hne : ((er : Int) == 0) = false := beq_eq_false_iff_ne.2 (by omega)
    have hne2 : ((er : Int) != 0) = true := bne_iff_ne.2 (by omega)
    clear hne0
    go_enter Try.func31, Try.ntmps31
    go_wp2_with (go_at_call 58; refine (unhide HS).mono ?_; rintro x w' ⟨rfl, hw⟩; have hw := hw.symm; subst hw)
    go_ret
    exact ⟨rfl, .err (unhide HR) er⟩

set_option maxRecDepth 10000 in
set_option maxHeartbeats 1000000 in
theorem refTextR_any (r e : Nat) (L : ByteArray) (most : Int) (w : World) (hr : Rm w r L e) (hL : L.size ≤ 1000000) (hm : -9223372036854775808 ≤ most ∧ most ≤ 9223372036854775807) :
    Calls Try.prog 31 #[.pointer (some ⟨r, 0, none⟩), .int .i64 most] w fun x w' => x = .returned (.string (textR L e most).1) ∧ ToldM w w' r (textR L e most).2.1 (textR L e most).2.2 := by
  unfold textR
  by_cases he : e ≠ 0
  · rw [if_pos he]
    have h1 := hr.cell1
    have HR := hide hr
    clear hr
    have hne : ((e : Int) == 0) = false := beq_eq_false_iff_ne.2 (by omega)
    have hne2 : ((e : Int) != 0) = true := bne_iff_ne.2 (by omega)
    clear he
    go_enter Try.func31, Try.ntmps31
    go_wp2
    go_ret
    exact ⟨rfl, .refl (unhide HR)⟩
  · obtain rfl : e = 0 := by omega
    rw [if_neg he]
    exact refText_in r L most w hr hL hm
end Go.Proofs.Ytepkifledonldaa
