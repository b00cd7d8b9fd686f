
/- The text at the beginning of a text. -/
import Derived.Test.YtepkifledonldaaAheadb
import Derived.Test.YtepkifledonldaaClone
namespace Go.Proofs.Ytepkifledonldaa
open Go.ChangeShapes Go.WideShapes Go.ChangeAt Go.RowKit

/-- the text at the front, of at most so many bytes: the text, its size with its length, the error -/
def textOf (s : ByteArray) (most : Int) : ByteArray × Nat × Nat :=
  if (Pk.scan (bn s)).2.2 ≠ 0 then (⟨#[]⟩, 0, (Pk.scan (bn s)).2.2)
  else if most < 0 ∨ most < ((Pk.scan (bn s)).1 : Int) then (⟨#[]⟩, 0, 22)
  else if s.size - (Pk.scan (bn s)).2.1 < (Pk.scan (bn s)).1 then (⟨#[]⟩, 0, 20)
  else (s.extract (Pk.scan (bn s)).2.1 ((Pk.scan (bn s)).2.1 + (Pk.scan (bn s)).1), (Pk.scan (bn s)).2.1 + (Pk.scan (bn s)).1, 0)

theorem scan_cases (s : ByteArray) : (∃ n k, Pk.scan (bn s) = (n, k, 0) ∧ n < 18446744073709551616 ∧ 0 < k ∧ k ≤ 10 ∧ k ≤ s.size ∧ k = (Pk.shL n).length ∧ (bn s).take k = Pk.shL n) ∨ (∃ er, Pk.scan (bn s) = (0, 0, er) ∧ er ≠ 0 ∧ er ≤ 21 ∧ 20 ≤ er) := by
  rcases Pk.scan_one (bn s) (bn_lt s) with ⟨n, e, h1, h2, h3⟩ | e | e
  · rw [bn_length] at h2
    exact .inl ⟨n, _, e, h1, Pk.shL_pos n, Pk.shL_le n, h2, rfl, h3⟩
  · exact .inr ⟨20, e, by decide, by decide, by decide⟩
  · exact .inr ⟨21, e, by decide, by decide, by decide⟩

/-- nothing but the reader has turned, and the reader is this -/
def Told (w w' : World) (r : Nat) (L : ByteArray) (e : Nat) : Prop := w.grownBy w' (some r) ∧ Rd w' r L e
theorem grown_refl (w : World) (r : Option Nat) : w.grownBy w r := ⟨rfl, rfl, rfl, Nat.le_refl _, fun _ _ _ => rfl⟩
theorem grown_set (w : World) (g j : Nat) (u : Value) : w.grownBy (w.setCell ⟨g, j, none⟩ u) (some g) :=
  ⟨rfl, rfl, rfl, by simp, fun k _ hne => Below.heap_setCell w ⟨g, j, none⟩ u k (fun e => hne (by rw [e]))⟩
theorem grown_trans {a b c : World} {r : Option Nat} (h : a.grownBy b r) (k : b.grownBy c r) : a.grownBy c r :=
  ⟨k.os.trans h.os, k.tape.trans h.tape, k.output.trans h.output, Nat.le_trans h.size k.size, fun i hi hne => (k.block i (Nat.lt_of_lt_of_le hi h.size) hne).trans (h.block i hi hne)⟩
theorem grown_below {w w' : World} (h : Below w.heap.size w w') (r : Option Nat) : w.grownBy w' r := ⟨h.os, h.tape, h.output, h.size, fun k hk _ => h.block k hk⟩
theorem Rd.below {w w' : World} {r e : Nat} {L : ByteArray} (h : Rd w r L e) (hb : Below w.heap.size w w') : Rd w' r L e := (hb.block r h.lt).trans h
theorem Told.refl {w : World} {r e : Nat} {L : ByteArray} (h : Rd w r L e) : Told w w r L e := ⟨grown_refl _ _, h⟩
theorem Told.err {w : World} {r e : Nat} {L : ByteArray} (h : Rd w r L e) (e' : Nat) : Told w (w.setCell ⟨r, 1, none⟩ (.int .i64 (e' : Int))) r L e' := ⟨grown_set _ _ _ _, h.setErr e'⟩
theorem Told.tell {w : World} {r : Nat} {L : ByteArray} (h : Rd w r L 0) (e' : Nat) : Told w (tellW w r e') r L e' := by
  unfold tellW
  split
  · rename_i h0; subst h0; exact .refl h
  · exact .err h e'

theorem textOf_bad {s : ByteArray} {er : Nat} (most : Int) (h : Pk.scan (bn s) = (0, 0, er)) (h0 : er ≠ 0) : textOf s most = (⟨#[]⟩, 0, er) := by
  unfold textOf
  rw [h, if_pos h0]
theorem textOf_long {s : ByteArray} {n k : Nat} {most : Int} (h : Pk.scan (bn s) = (n, k, 0)) (hm : most < 0 ∨ most < (n : Int)) : textOf s most = (⟨#[]⟩, 0, 22) := by
  unfold textOf
  rw [h, if_neg (by simp), if_pos hm]
theorem textOf_short {s : ByteArray} {n k : Nat} {most : Int} (h : Pk.scan (bn s) = (n, k, 0)) (hm : ¬ (most < 0 ∨ most < (n : Int))) (hl : s.size - k < n) : textOf s most = (⟨#[]⟩, 0, 20) := by
  unfold textOf
  rw [h, if_neg (by simp), if_neg hm, if_pos hl]
theorem textOf_ok {s : ByteArray} {n k : Nat} {most : Int} (h : Pk.scan (bn s) = (n, k, 0)) (hm : ¬ (most < 0 ∨ most < (n : Int))) (hl : ¬ s.size - k < n) : textOf s most = (s.extract k (k + n), k + n, 0) := by
  unfold textOf
  rw [h, if_neg (by simp), if_neg hm, if_neg hl]

theorem ret2_si {k : IntKind} {t : ByteArray} {a b : Int} (h : a = b) : Ending.returned (.tuple #[.string t, .int k a]) = .returned (.tuple #[.string t, .int k b]) := by rw [h]

set_option maxRecDepth 10000 in
set_option maxHeartbeats 2000000 in
theorem textAhead42 (c r : Nat) (L s : ByteArray) (most : Int) (w : World) (hs : s.size ≤ 1000000) (hm : -9223372036854775808 ≤ most ∧ most ≤ 9223372036854775807) (hc : w.cell? ⟨c, 0, none⟩ = some (.pointer (some ⟨r, 0, none⟩))) (hr : Rd w r L 0) :
    Calls Try.prog 78 #[.string s, .int .i64 most, .func (.func 81) #[] #[.pointer (some ⟨c, 0, none⟩)]] w fun e w' => e = .returned (.tuple #[.string (textOf s most).1, .int .i64 ((textOf s most).2.1 : Int)]) ∧ Told w w' r L (textOf s most).2.2 := by
  have hS := (shortAhead42 c r 0 L s w (by unfold maxLen; omega) hc hr)
  have HC := hide hc
  have HR := hide hr
  clear hc hr
  rcases scan_cases s with ⟨n, k, hsc, hn, hk0, hk10, hks, hx1, hx2⟩ | ⟨er, hsc, h0, _, _⟩
  · clear hx1 hx2
    have hS' : Calls Try.prog 75 #[.string s, .func (.func 81) #[] #[.pointer (some ⟨c, 0, none⟩)]] w fun e w' => e = .returned (.tuple #[.int .u64 (n : Int), .int .i64 (k : Int)]) ∧ w' = w := by
      refine hS.mono ?_
      rintro e w' ⟨n', k', er, h, rfl, rfl⟩
      rw [hsc] at h
      obtain ⟨rfl, rfl, rfl⟩ : n = n' ∧ k = k' ∧ 0 = er := by simpa using h
      exact ⟨rfl, rfl⟩
    have HS := hide hS'
    clear hS hS'
    by_cases hlong : most < 0 ∨ most < (n : Int)
    · rw [textOf_long hsc hlong]
      clear hsc
      by_cases hneg : most < 0
      · clear hlong
        go_enter Try.func78, Try.ntmps78
        go_wp2_with (first
          | (go_at_call 75; refine (unhide HS).mono ?_; rintro e w' ⟨rfl, hw⟩; have hw := hw.symm; subst hw)
          | (go_at_call 81; refine (tell42 _ _ _ _ _ _ (unhide HC) (unhide HR)).mono ?_; rintro e w' ⟨rfl, rfl⟩))
        go_ret2
        exact ⟨rfl, Told.err (unhide HR) 22⟩
      · have hlt : most < (n : Int) := by omega
        clear hlong
        go_enter Try.func78, Try.ntmps78
        go_wp2_with (first
          | (go_at_call 75; refine (unhide HS).mono ?_; rintro e w' ⟨rfl, hw⟩; have hw := hw.symm; subst hw)
          | (go_at_call 81; refine (tell42 _ _ _ _ _ _ (unhide HC) (unhide HR)).mono ?_; rintro e w' ⟨rfl, rfl⟩))
        go_ret2
        exact ⟨rfl, Told.err (unhide HR) 22⟩
    · have hneg : ¬ most < 0 := by omega
      have hge : ¬ most < (n : Int) := by omega
      by_cases hfew : s.size - k < n
      · rw [textOf_short hsc hlong hfew]
        clear hsc hlong
        go_enter Try.func78, Try.ntmps78
        go_wp2_with (first
          | (go_at_call 75; refine (unhide HS).mono ?_; rintro e w' ⟨rfl, hw⟩; have hw := hw.symm; subst hw)
          | (go_at_call 81; refine (tell42 _ _ _ _ _ _ (unhide HC) (unhide HR)).mono ?_; rintro e w' ⟨rfl, rfl⟩))
        go_ret2
        exact ⟨rfl, Told.err (unhide HR) 20⟩
      · rw [textOf_ok hsc hlong hfew]
        clear hsc hlong
        have hsum : k + n ≤ s.size := by omega
        go_enter Try.func78, Try.ntmps78
        go_wp2_with (first
          | (go_at_call 75; refine (unhide HS).mono ?_; rintro e w' ⟨rfl, hw⟩; have hw := hw.symm; subst hw)
          | (go_at_call 72; refine (clone_any _ _ (by simp; omega)).mono ?_; rintro e w' ⟨rfl, hb⟩))
        go_ret2
        exact ⟨ret2_si (by omega), grown_below hb _, (unhide HR).below hb⟩
  · have hS' : Calls Try.prog 75 #[.string s, .func (.func 81) #[] #[.pointer (some ⟨c, 0, none⟩)]] w fun e w' => e = .returned (.tuple #[.int .u64 0, .int .i64 0]) ∧ w' = w.setCell ⟨r, 1, none⟩ (.int .i64 (er : Int)) := by
      refine hS.mono ?_
      rintro e w' ⟨n', k', er', h, rfl, rfl⟩
      rw [hsc] at h
      obtain ⟨rfl, rfl, rfl⟩ : 0 = n' ∧ 0 = k' ∧ er = er' := by simpa using h
      refine ⟨rfl, ?_⟩
      unfold tellW
      rw [if_neg h0]
    have HS := hide hS'
    clear hS hS'
    rw [textOf_bad most hsc h0]
    clear hsc
    go_enter Try.func78, Try.ntmps78
    go_wp2_with (go_at_call 75; refine (unhide HS).mono ?_; rintro e w' ⟨rfl, rfl⟩)
    go_ret2
    exact ⟨rfl, Told.err (unhide HR) er⟩

set_option maxRecDepth 10000 in
set_option maxHeartbeats 400000 in
theorem textClosure (c r d : Nat) (L s : ByteArray) (most : Int) (w : World) (hs : s.size ≤ 1000000) (hm : -9223372036854775808 ≤ most ∧ most ≤ 9223372036854775807) (hd : w.cell? ⟨d, 0, none⟩ = some (.int .i64 most)) (hc : w.cell? ⟨c, 0, none⟩ = some (.pointer (some ⟨r, 0, none⟩))) (hr : Rd w r L 0) :
    Calls Try.prog 77 #[.string s, .func (.func 81) #[] #[.pointer (some ⟨c, 0, none⟩)], .pointer (some ⟨d, 0, none⟩)] w fun e w' => e = .returned (.tuple #[.string (textOf s most).1, .int .i64 ((textOf s most).2.1 : Int)]) ∧ Told w w' r L (textOf s most).2.2 := by
  have HS := hide (textAhead42 c r L s most w hs hm hc hr)
  clear hc hr
  generalize textOf s most = T at *
  go_enter Try.func77, Try.ntmps77
  go_wp2_with (go_at_call 78; refine (unhide HS).mono ?_; rintro e w' ⟨rfl, ht⟩)
  go_ret2
  exact ⟨rfl, ht⟩
end Go.Proofs.Ytepkifledonldaa
