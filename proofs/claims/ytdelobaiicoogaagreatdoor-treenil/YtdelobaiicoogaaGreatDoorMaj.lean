/- Texts that the proof needs, one behind the other. -/
import Derived.Test.YtdelobaiicoogaaGreatDoorMai
import Derived.RegionTactic
import Derived.ChangeAlike
import Derived.Laws.ResultCell
/- The text at the beginning of a text. -/
namespace Go.Proofs.YtdelobaiicoogaaGreatDoor.L6
open Go.ChangeShapes Go.WideShapes Go.ChangeAt Go.RowKit

/-- the text at the front, of at most so many bytes: the text, its size with its length, the error -/
def textOf (s : ByteArray) (most : Int) : ByteArray × Nat × Nat :=
  if (Pk.scan (bn s)).2.2 ≠ 0 then (⟨#[]⟩, 0, (Pk.scan (bn s)).2.2)
  else if most < 0 ∨ most < ((Pk.scan (bn s)).1 : Int) then (⟨#[]⟩, 0, 22)
  else if s.size - (Pk.scan (bn s)).2.1 < (Pk.scan (bn s)).1 then (⟨#[]⟩, 0, 20)
  else (s.extract (Pk.scan (bn s)).2.1 ((Pk.scan (bn s)).2.1 + (Pk.scan (bn s)).1), (Pk.scan (bn s)).2.1 + (Pk.scan (bn s)).1, 0)

theorem scan_cases (s : ByteArray) : (∃ n k, Pk.scan (bn s) = (n, k, 0) ∧ n < 18446744073709551616 ∧ 0 < k ∧ k ≤ 10 ∧ k ≤ s.size ∧ k = (Pk.shL n).length ∧ (bn s).take k = Pk.shL n) ∨ (∃ er, Pk.scan (bn s) = (0, 0, er) ∧ er ≠ 0 ∧ er ≤ 21 ∧ 20 ≤ er) := by
  rcases Pk.scan_one (bn s) (bn_lt s) with ⟨n, e, h1, h2, h3⟩ | e | e
  · rw [bn_length] at h2
    exact .inl ⟨n, _, e, h1, Pk.shL_pos n, Pk.shL_le n, h2, rfl, h3⟩
  · exact .inr ⟨20, e, by decide, by decide, by decide⟩
  · exact .inr ⟨21, e, by decide, by decide, by decide⟩

/-- nothing but the reader has turned, and the reader is this -/
def Told (w w' : World) (r : Nat) (L : ByteArray) (e : Nat) : Prop := w.grownBy w' (some r) ∧ Rd w' r L e
theorem grown_refl (w : World) (r : Option Nat) : w.grownBy w r := ⟨rfl, rfl, rfl, Nat.le_refl _, fun _ _ _ => rfl⟩
theorem grown_set (w : World) (g j : Nat) (u : Value) : w.grownBy (w.setCell ⟨g, j, none⟩ u) (some g) :=
  ⟨rfl, rfl, rfl, by simp, fun k _ hne => Below.heap_setCell w ⟨g, j, none⟩ u k (fun e => hne (by rw [e]))⟩
theorem grown_trans {a b c : World} {r : Option Nat} (h : a.grownBy b r) (k : b.grownBy c r) : a.grownBy c r :=
  ⟨k.os.trans h.os, k.tape.trans h.tape, k.output.trans h.output, Nat.le_trans h.size k.size, fun i hi hne => (k.block i (Nat.lt_of_lt_of_le hi h.size) hne).trans (h.block i hi hne)⟩
theorem grown_below {w w' : World} (h : Below w.heap.size w w') (r : Option Nat) : w.grownBy w' r := ⟨h.os, h.tape, h.output, h.size, fun k hk _ => h.block k hk⟩
theorem Rd.below {w w' : World} {r e : Nat} {L : ByteArray} (h : Rd w r L e) (hb : Below w.heap.size w w') : Rd w' r L e := (hb.block r h.lt).trans h
theorem Told.refl {w : World} {r e : Nat} {L : ByteArray} (h : Rd w r L e) : Told w w r L e := ⟨grown_refl _ _, h⟩
theorem Told.err {w : World} {r e : Nat} {L : ByteArray} (h : Rd w r L e) (e' : Nat) : Told w (w.setCell ⟨r, 1, none⟩ (.int .i64 (e' : Int))) r L e' := ⟨grown_set _ _ _ _, h.setErr e'⟩
theorem Told.tell {w : World} {r : Nat} {L : ByteArray} (h : Rd w r L 0) (e' : Nat) : Told w (tellW w r e') r L e' := by
  unfold tellW
  split
  · rename_i h0; subst h0; exact .refl h
  · exact .err h e'

theorem textOf_bad {s : ByteArray} {er : Nat} (most : Int) (h : Pk.scan (bn s) = (0, 0, er)) (h0 : er ≠ 0) : textOf s most = (⟨#[]⟩, 0, er) := by
  unfold textOf
  rw [h, if_pos h0]
theorem textOf_long {s : ByteArray} {n k : Nat} {most : Int} (h : Pk.scan (bn s) = (n, k, 0)) (hm : most < 0 ∨ most < (n : Int)) : textOf s most = (⟨#[]⟩, 0, 22) := by
  unfold textOf
  rw [h, if_neg (by simp), if_pos hm]
theorem textOf_short {s : ByteArray} {n k : Nat} {most : Int} (h : Pk.scan (bn s) = (n, k, 0)) (hm : ¬ (most < 0 ∨ most < (n : Int))) (hl : s.size - k < n) : textOf s most = (⟨#[]⟩, 0, 20) := by
  unfold textOf
  rw [h, if_neg (by simp), if_neg hm, if_pos hl]
theorem textOf_ok {s : ByteArray} {n k : Nat} {most : Int} (h : Pk.scan (bn s) = (n, k, 0)) (hm : ¬ (most < 0 ∨ most < (n : Int))) (hl : ¬ s.size - k < n) : textOf s most = (s.extract k (k + n), k + n, 0) := by
  unfold textOf
  rw [h, if_neg (by simp), if_neg hm, if_neg hl]

theorem ret2_si {k : IntKind} {t : ByteArray} {a b : Int} (h : a = b) : Ending.returned (.tuple #[.string t, .int k a]) = .returned (.tuple #[.string t, .int k b]) := by rw [h]

set_option maxRecDepth 10000 in
set_option maxHeartbeats 2000000 in
theorem textAhead42 (c r : Nat) (L s : ByteArray) (most : Int) (w : World) (hs : s.size ≤ 1000000) (hm : -9223372036854775808 ≤ most ∧ most ≤ 9223372036854775807) (hc : w.cell? ⟨c, 0, none⟩ = some (.pointer (some ⟨r, 0, none⟩))) (hr : Rd w r L 0) :
    Calls Tryz.prog 256 #[.string s, .int .i64 most, .func (.func 270) #[] #[.pointer (some ⟨c, 0, none⟩)]] w fun e w' => e = .returned (.tuple #[.string (textOf s most).1, .int .i64 ((textOf s most).2.1 : Int)]) ∧ Told w w' r L (textOf s most).2.2 := by
  have hS := (shortAhead42 c r 0 L s w (by unfold maxLen; omega) hc hr)
  have HC := hide hc
  have HR := hide hr
  clear hc hr
  rcases scan_cases s with ⟨n, k, hsc, hn, hk0, hk10, hks, hx1, hx2⟩ | ⟨er, hsc, h0, _, _⟩
  · clear hx1 hx2
    have hS' : Calls Tryz.prog 253 #[.string s, .func (.func 270) #[] #[.pointer (some ⟨c, 0, none⟩)]] w fun e w' => e = .returned (.tuple #[.int .u64 (n : Int), .int .i64 (k : Int)]) ∧ w' = w := by
      refine hS.mono ?_
      rintro e w' ⟨n', k', er, h, rfl, rfl⟩
      rw [hsc] at h
      obtain ⟨rfl, rfl, rfl⟩ : n = n' ∧ k = k' ∧ 0 = er := by simpa using h
      exact ⟨rfl, rfl⟩
    have HS := hide hS'
    clear hS hS'
    by_cases hlong : most < 0 ∨ most < (n : Int)
    · rw [textOf_long hsc hlong]
      clear hsc
      by_cases hneg : most < 0
      · clear hlong
        go_enter Tryz.func256, Tryz.ntmps256
        go_wp2_with (first
          | (go_at_call 253; refine (unhide HS).mono ?_; rintro e w' ⟨rfl, hw⟩; have hw := hw.symm; subst hw)
          | (go_at_call 270; refine (tell42 _ _ _ _ _ _ (unhide HC) (unhide HR)).mono ?_; rintro e w' ⟨rfl, rfl⟩))
        go_ret2
        exact ⟨rfl, Told.err (unhide HR) 22⟩
      · have hlt : most < (n : Int) := by omega
        clear hlong
        go_enter Tryz.func256, Tryz.ntmps256
        go_wp2_with (first
          | (go_at_call 253; refine (unhide HS).mono ?_; rintro e w' ⟨rfl, hw⟩; have hw := hw.symm; subst hw)
          | (go_at_call 270; refine (tell42 _ _ _ _ _ _ (unhide HC) (unhide HR)).mono ?_; rintro e w' ⟨rfl, rfl⟩))
        go_ret2
        exact ⟨rfl, Told.err (unhide HR) 22⟩
    · have hneg : ¬ most < 0 := by omega
      have hge : ¬ most < (n : Int) := by omega
      by_cases hfew : s.size - k < n
      · rw [textOf_short hsc hlong hfew]
        clear hsc hlong
        go_enter Tryz.func256, Tryz.ntmps256
        go_wp2_with (first
          | (go_at_call 253; refine (unhide HS).mono ?_; rintro e w' ⟨rfl, hw⟩; have hw := hw.symm; subst hw)
          | (go_at_call 270; refine (tell42 _ _ _ _ _ _ (unhide HC) (unhide HR)).mono ?_; rintro e w' ⟨rfl, rfl⟩))
        go_ret2
        exact ⟨rfl, Told.err (unhide HR) 20⟩
      · rw [textOf_ok hsc hlong hfew]
        clear hsc hlong
        have hsum : k + n ≤ s.size := by omega
        go_enter Tryz.func256, Tryz.ntmps256
        go_wp2_with (first
          | (go_at_call 253; refine (unhide HS).mono ?_; rintro e w' ⟨rfl, hw⟩; have hw := hw.symm; subst hw)
          | (go_at_call 106; refine (clone_any _ _ (by simp; omega)).mono ?_; rintro e w' ⟨rfl, hb⟩))
        go_ret2
        exact ⟨ret2_si (by omega), grown_below hb _, (unhide HR).below hb⟩
  · have hS' : Calls Tryz.prog 253 #[.string s, .func (.func 270) #[] #[.pointer (some ⟨c, 0, none⟩)]] w fun e w' => e = .returned (.tuple #[.int .u64 0, .int .i64 0]) ∧ w' = w.setCell ⟨r, 1, none⟩ (.int .i64 (er : Int)) := by
      refine hS.mono ?_
      rintro e w' ⟨n', k', er', h, rfl, rfl⟩
      rw [hsc] at h
      obtain ⟨rfl, rfl, rfl⟩ : 0 = n' ∧ 0 = k' ∧ er = er' := by simpa using h
      refine ⟨rfl, ?_⟩
      unfold tellW
      rw [if_neg h0]
    have HS := hide hS'
    clear hS hS'
    rw [textOf_bad most hsc h0]
    clear hsc
    go_enter Tryz.func256, Tryz.ntmps256
    go_wp2_with (go_at_call 253; refine (unhide HS).mono ?_; rintro e w' ⟨rfl, rfl⟩)
    go_ret2
    exact ⟨rfl, Told.err (unhide HR) er⟩

set_option maxRecDepth 10000 in
set_option maxHeartbeats 400000 in
theorem textClosure (c r d : Nat) (L s : ByteArray) (most : Int) (w : World) (hs : s.size ≤ 1000000) (hm : -9223372036854775808 ≤ most ∧ most ≤ 9223372036854775807) (hd : w.cell? ⟨d, 0, none⟩ = some (.int .i64 most)) (hc : w.cell? ⟨c, 0, none⟩ = some (.pointer (some ⟨r, 0, none⟩))) (hr : Rd w r L 0) :
    Calls Tryz.prog 255 #[.string s, .func (.func 270) #[] #[.pointer (some ⟨c, 0, none⟩)], .pointer (some ⟨d, 0, none⟩)] w fun e w' => e = .returned (.tuple #[.string (textOf s most).1, .int .i64 ((textOf s most).2.1 : Int)]) ∧ Told w w' r L (textOf s most).2.2 := by
  have HS := hide (textAhead42 c r L s most w hs hm hc hr)
  clear hc hr
  generalize textOf s most = T at *
  go_enter Tryz.func255, Tryz.ntmps255
  go_wp2_with (go_at_call 256; refine (unhide HS).mono ?_; rintro e w' ⟨rfl, ht⟩)
  go_ret2
  exact ⟨rfl, ht⟩
end Go.Proofs.YtdelobaiicoogaaGreatDoor.L6

/- What take does: it goes on behind what stands ahead. -/
namespace Go.Proofs.YtdelobaiicoogaaGreatDoor.L6
open Go.ChangeShapes Go.WideShapes Go.ChangeAt Go.RowKit

set_option maxHeartbeats 400000 in
theorem err_any (r e : Nat) (L : ByteArray) (w : World) (hr : Rd w r L e) :
    Calls Tryz.prog 235 #[.pointer (some ⟨r, 0, none⟩)] w fun x w' => x = .returned (.int .i64 (e : Int)) ∧ w' = w := by
  have h1 := hr.cell1
  clear hr
  go_enter Tryz.func235, Tryz.ntmps235
  go_wp2
  go_ret
  exact ⟨rfl, rfl⟩
theorem Rd.alloc {w : World} {r e : Nat} {L : ByteArray} (h : Rd w r L e) (o : Obj) : Rd (w.alloc o) r L e := h.below ((Below.refl _ _).alloc (Nat.le_refl _) o)
theorem Rd.drew {w : World} {r e : Nat} {L : ByteArray} (h : Rd w r L e) : Rd w.drew r L e := h.below (Below.refl _ _).drew
theorem grown_drew (w : World) (r : Option Nat) : w.grownBy w.drew r := grown_below (Below.refl _ _).drew r
theorem grown_alloc (w : World) (o : Obj) (r : Option Nat) : w.grownBy (w.alloc o) r := grown_below ((Below.refl _ _).alloc (Nat.le_refl _) o) r
/-- behind the store -/
theorem Told.left {w w' : World} {o : Obj} {r e : Nat} {L : ByteArray} (h : Told (w.alloc o) w' r L e) (L' : ByteArray) : Told w (w'.setCell ⟨r, 0, none⟩ (.string L')).drew r L' e :=
  ⟨grown_trans (grown_trans (grown_trans (grown_alloc w o _) h.1) (grown_set _ _ _ _)) (grown_drew _ _), (h.2.setLeft L').drew⟩
theorem Told.box {w w' : World} {r e : Nat} {L : ByteArray} {v : Value} {t : TypeId} (h : Told (w.alloc (.cells #[v] t)) w' r L e) (hr : r < w.heap.size) : w'.cell? ⟨w.heap.size, 0, none⟩ = some v :=
  World.grownBy.cell h.1 (by simp) (by simp; omega)

set_option maxRecDepth 10000 in
set_option maxHeartbeats 1000000 in
theorem take_err_u8 (v : Value) (r e : Nat) (L : ByteArray) (w : World) (hr : Rd w r L e) (h0 : e ≠ 0) :
    Calls Tryz.prog 223 #[.pointer (some ⟨r, 0, none⟩), v] w fun x w' => x = .returned (.int .u8 0) ∧ Told w w' r L e := by
  have HE := hide (err_any r e L _ (hr.alloc (.cells #[.pointer (some ⟨r, 0, none⟩)] 297)))
  have HR := hide hr
  clear hr
  have hne : ((e : Int) == 0) = false := beq_eq_false_iff_ne.2 (by omega)
  have hne2 : ((e : Int) != 0) = true := bne_iff_ne.2 (by omega)
  clear h0
  go_enter Tryz.func223, Tryz.ntmps223
  go_wp2_with (go_at_call 235; refine (unhide HE).mono ?_; rintro x w' ⟨rfl, rfl⟩)
  go_ret
  exact ⟨rfl, grown_alloc _ _ _, (unhide HR).alloc _⟩
set_option maxRecDepth 10000 in
set_option maxHeartbeats 1000000 in
theorem take_err_u64 (v : Value) (r e : Nat) (L : ByteArray) (w : World) (hr : Rd w r L e) (h0 : e ≠ 0) :
    Calls Tryz.prog 225 #[.pointer (some ⟨r, 0, none⟩), v] w fun x w' => x = .returned (.int .u64 0) ∧ Told w w' r L e := by
  have HE := hide (err_any r e L _ (hr.alloc (.cells #[.pointer (some ⟨r, 0, none⟩)] 297)))
  have HR := hide hr
  clear hr
  have hne : ((e : Int) == 0) = false := beq_eq_false_iff_ne.2 (by omega)
  have hne2 : ((e : Int) != 0) = true := bne_iff_ne.2 (by omega)
  clear h0
  go_enter Tryz.func225, Tryz.ntmps225
  go_wp2_with (go_at_call 235; refine (unhide HE).mono ?_; rintro x w' ⟨rfl, rfl⟩)
  go_ret
  exact ⟨rfl, grown_alloc _ _ _, (unhide HR).alloc _⟩
set_option maxRecDepth 10000 in
set_option maxHeartbeats 1000000 in
theorem take_err_str (v : Value) (r e : Nat) (L : ByteArray) (w : World) (hr : Rd w r L e) (h0 : e ≠ 0) :
    Calls Tryz.prog 254 #[.pointer (some ⟨r, 0, none⟩), v] w fun x w' => x = .returned (.string ⟨#[]⟩) ∧ Told w w' r L e := by
  have HE := hide (err_any r e L _ (hr.alloc (.cells #[.pointer (some ⟨r, 0, none⟩)] 297)))
  have HR := hide hr
  clear hr
  have hne : ((e : Int) == 0) = false := beq_eq_false_iff_ne.2 (by omega)
  have hne2 : ((e : Int) != 0) = true := bne_iff_ne.2 (by omega)
  clear h0
  go_enter Tryz.func254, Tryz.ntmps254
  go_wp2_with (go_at_call 235; refine (unhide HE).mono ?_; rintro x w' ⟨rfl, rfl⟩)
  go_ret
  exact ⟨rfl, grown_alloc _ _ _, (unhide HR).alloc _⟩
set_option maxRecDepth 10000 in
set_option maxHeartbeats 1000000 in
theorem take_byte (r k er : Nat) (n : Nat) (L : ByteArray) (w : World) (hr : Rd w r L 0) (_hL : L.size ≤ 1000000) (hk : k ≤ L.size)
    (hA : Calls Tryz.prog 224 #[.string L, .func (.func 247) #[] #[.pointer (some ⟨w.heap.size, 0, none⟩)]] (w.alloc (.cells #[.pointer (some ⟨r, 0, none⟩)] 297)) fun x w' =>
      x = .returned (.tuple #[.int .u8 (n : Int), .int .i64 (k : Int)]) ∧ Told (w.alloc (.cells #[.pointer (some ⟨r, 0, none⟩)] 297)) w' r L er) :
    Calls Tryz.prog 223 #[.pointer (some ⟨r, 0, none⟩), .func (.func 224) #[] #[]] w fun x w' => x = .returned (.int .u8 (n : Int)) ∧ Told w w' r (L.extract k L.size) er := by
  have HE := hide (err_any r 0 L _ (hr.alloc (.cells #[.pointer (some ⟨r, 0, none⟩)] 297)))
  have HA := hide hA
  have hlt := hr.lt
  have hne : ¬ r = w.heap.size := by omega
  have hc0 : (w.alloc (.cells #[.pointer (some ⟨r, 0, none⟩)] 297)).cell? ⟨r, 0, none⟩ = some (.string L) := (hr.alloc _).cell0
  clear hr hA
  go_enter Tryz.func223, Tryz.ntmps223
  go_wp2_with (first
    | (go_at_call 235; refine (unhide HE).mono ?_; rintro x w' ⟨rfl, rfl⟩)
    | (go_at_call 224; refine (unhide HA).mono ?_; rintro x w' ⟨rfl, ht⟩; have hb0 := ht.2.cell0; have hf0 := ht.2.free 0; have hbx := ht.box hlt; have HT := hide ht; clear ht))
  go_region
  all_goals go_wp2
  all_goals go_ret
  all_goals exact ⟨rfl, (unhide HT).left _⟩
set_option maxRecDepth 10000 in
set_option maxHeartbeats 1000000 in
theorem take_short (r k er : Nat) (n : Nat) (L : ByteArray) (w : World) (hr : Rd w r L 0) (_hL : L.size ≤ 1000000) (hk : k ≤ L.size)
    (hA : Calls Tryz.prog 253 #[.string L, .func (.func 248) #[] #[.pointer (some ⟨w.heap.size, 0, none⟩)]] (w.alloc (.cells #[.pointer (some ⟨r, 0, none⟩)] 297)) fun x w' =>
      x = .returned (.tuple #[.int .u64 (n : Int), .int .i64 (k : Int)]) ∧ Told (w.alloc (.cells #[.pointer (some ⟨r, 0, none⟩)] 297)) w' r L er) :
    Calls Tryz.prog 225 #[.pointer (some ⟨r, 0, none⟩), .func (.func 253) #[] #[]] w fun x w' => x = .returned (.int .u64 (n : Int)) ∧ Told w w' r (L.extract k L.size) er := by
  have HE := hide (err_any r 0 L _ (hr.alloc (.cells #[.pointer (some ⟨r, 0, none⟩)] 297)))
  have HA := hide hA
  have hlt := hr.lt
  have hne : ¬ r = w.heap.size := by omega
  have hc0 : (w.alloc (.cells #[.pointer (some ⟨r, 0, none⟩)] 297)).cell? ⟨r, 0, none⟩ = some (.string L) := (hr.alloc _).cell0
  clear hr hA
  go_enter Tryz.func225, Tryz.ntmps225
  go_wp2_with (first
    | (go_at_call 235; refine (unhide HE).mono ?_; rintro x w' ⟨rfl, rfl⟩)
    | (go_at_call 253; refine (unhide HA).mono ?_; rintro x w' ⟨rfl, ht⟩; have hb0 := ht.2.cell0; have hf0 := ht.2.free 0; have hbx := ht.box hlt; have HT := hide ht; clear ht))
  go_region
  all_goals go_wp2
  all_goals go_ret
  all_goals exact ⟨rfl, (unhide HT).left _⟩
set_option maxRecDepth 10000 in
set_option maxHeartbeats 1000000 in
theorem take_text (r k er : Nat) (n : ByteArray) (L : ByteArray) (w : World) (d : Nat) (hr : Rd w r L 0) (_hL : L.size ≤ 1000000) (hk : k ≤ L.size)
    (hA : Calls Tryz.prog 255 #[.string L, .func (.func 270) #[] #[.pointer (some ⟨w.heap.size, 0, none⟩)], .pointer (some ⟨d, 0, none⟩)] (w.alloc (.cells #[.pointer (some ⟨r, 0, none⟩)] 297)) fun x w' =>
      x = .returned (.tuple #[.string n, .int .i64 (k : Int)]) ∧ Told (w.alloc (.cells #[.pointer (some ⟨r, 0, none⟩)] 297)) w' r L er) :
    Calls Tryz.prog 254 #[.pointer (some ⟨r, 0, none⟩), .func (.func 255) #[] #[.pointer (some ⟨d, 0, none⟩)]] w fun x w' => x = .returned (.string n) ∧ Told w w' r (L.extract k L.size) er := by
  have HE := hide (err_any r 0 L _ (hr.alloc (.cells #[.pointer (some ⟨r, 0, none⟩)] 297)))
  have HA := hide hA
  have hlt := hr.lt
  have hne : ¬ r = w.heap.size := by omega
  have hc0 : (w.alloc (.cells #[.pointer (some ⟨r, 0, none⟩)] 297)).cell? ⟨r, 0, none⟩ = some (.string L) := (hr.alloc _).cell0
  clear hr hA
  go_enter Tryz.func254, Tryz.ntmps254
  go_wp2_with (first
    | (go_at_call 235; refine (unhide HE).mono ?_; rintro x w' ⟨rfl, rfl⟩)
    | (go_at_call 255; refine (unhide HA).mono ?_; rintro x w' ⟨rfl, ht⟩; have hb0 := ht.2.cell0; have hf0 := ht.2.free 0; have hbx := ht.box hlt; have HT := hide ht; clear ht))
  go_region
  all_goals go_wp2
  all_goals go_ret
  all_goals exact ⟨rfl, (unhide HT).left _⟩
end Go.Proofs.YtdelobaiicoogaaGreatDoor.L6

/- What a reader of package pack answers, call by call. -/
namespace Go.Proofs.YtdelobaiicoogaaGreatDoor.L6
open Go.ChangeShapes Go.WideShapes Go.ChangeAt Go.RowKit

/-- THE DOCUMENT's: the answer, what is left, the error -/
def byteR (L : ByteArray) (e : Nat) : Nat × ByteArray × Nat :=
  if e ≠ 0 then (0, L, e) else if L.size = 0 then (0, L, 20) else ((bn L).getD 0 0, L.extract 1 L.size, 0)
def shortR (L : ByteArray) (e : Nat) : Nat × ByteArray × Nat :=
  if e ≠ 0 then (0, L, e) else ((Pk.scan (bn L)).1, L.extract (Pk.scan (bn L)).2.1 L.size, (Pk.scan (bn L)).2.2)
def textR (L : ByteArray) (e : Nat) (most : Int) : ByteArray × ByteArray × Nat :=
  if e ≠ 0 then (⟨#[]⟩, L, e) else ((textOf L most).1, L.extract (textOf L most).2.1 L.size, (textOf L most).2.2)
def leftR (L : ByteArray) (e : Nat) : Nat := if e ≠ 0 then 0 else L.size
def endR (L : ByteArray) (e : Nat) : Nat := if e ≠ 0 then e else if L.size = 0 then 0 else 22

theorem ext0 (L : ByteArray) : L.extract 0 L.size = L := by
  apply ByteArray.ext
  simp
theorem byte0 (L : ByteArray) (h : 0 < L.size) : (bn L).getD 0 0 = L[0].toNat := by
  rw [List.getD_eq_getElem?_getD, bn_at L 0 h]
  rfl
theorem textOf_le (L : ByteArray) (most : Int) : (textOf L most).2.1 ≤ L.size := by
  rcases scan_cases L with ⟨n, k, hsc, _, _, _, hks, _, _⟩ | ⟨er, hsc, h0, _, _⟩
  · by_cases h1 : most < 0 ∨ most < (n : Int)
    · rw [textOf_long hsc h1]; exact Nat.zero_le _
    · by_cases h2 : L.size - k < n
      · rw [textOf_short hsc h1 h2]; exact Nat.zero_le _
      · rw [textOf_ok hsc h1 h2]
        show k + n ≤ _
        omega
  · rw [textOf_bad most hsc h0]; exact Nat.zero_le _
theorem scan_le (L : ByteArray) : (Pk.scan (bn L)).2.1 ≤ L.size := by
  rcases scan_cases L with ⟨n, k, hsc, _, _, _, hks, _, _⟩ | ⟨er, hsc, h0, _, _⟩
  · rw [hsc]; exact hks
  · rw [hsc]; exact Nat.zero_le _

set_option maxHeartbeats 400000 in
theorem read_any (s : ByteArray) (w : World) :
    Calls Tryz.prog 178 #[.string s] w fun x w' => x = .returned (.pointer (some ⟨w.heap.size, 0, none⟩)) ∧ w' = w.alloc (.cells #[.string s, .int .i64 0] 334) := by
  go_enter Tryz.func178, Tryz.ntmps178
  go_wp2
  go_ret
  exact ⟨rfl, rfl⟩
theorem Rd.new (w : World) (s : ByteArray) : Rd (w.alloc (.cells #[.string s, .int .i64 0] 334)) w.heap.size s 0 := heap_alloc_new w _

theorem box_cell (w : World) (v : Value) (t : TypeId) : (w.alloc (.cells #[v] t)).cell? ⟨w.heap.size, 0, none⟩ = some v := by simp

/- Byte -/
theorem takeByte_any (r e : Nat) (L : ByteArray) (w : World) (hr : Rd w r L e) (hL : L.size ≤ 1000000) :
    Calls Tryz.prog 223 #[.pointer (some ⟨r, 0, none⟩), .func (.func 224) #[] #[]] w fun x w' => x = .returned (.int .u8 ((byteR L e).1 : Int)) ∧ Told w w' r (byteR L e).2.1 (byteR L e).2.2 := by
  by_cases he : e ≠ 0
  · unfold byteR
    rw [if_pos he]
    exact take_err_u8 _ r e L w hr he
  · obtain rfl : e = 0 := by omega
    unfold byteR
    rw [if_neg he]
    by_cases h0 : L.size = 0
    · rw [if_pos h0]
      have h := take_byte r 0 20 0 L w hr hL (Nat.zero_le _) ((byteAhead_none w.heap.size r 0 L L _ h0 (box_cell _ _ _) (hr.alloc _)).mono (by rintro x w' ⟨rfl, rfl⟩; exact ⟨rfl, Told.err (hr.alloc _) 20⟩))
      rw [ext0] at h
      exact h
    · rw [if_neg h0]
      have hp : 0 < L.size := by omega
      have h := take_byte r 1 0 (L[0].toNat) L w hr hL hp ((byteAhead_some _ L _ hp).mono (by rintro x w' ⟨rfl, rfl⟩; exact ⟨rfl, Told.refl (hr.alloc _)⟩))
      rw [byte0 L hp]
      exact h
set_option maxHeartbeats 400000 in
theorem byte_any (r e : Nat) (L : ByteArray) (w : World) (hr : Rd w r L e) (hL : L.size ≤ 1000000) :
    Calls Tryz.prog 204 #[.pointer (some ⟨r, 0, none⟩)] w fun x w' => x = .returned (.int .u8 ((byteR L e).1 : Int)) ∧ Told w w' r (byteR L e).2.1 (byteR L e).2.2 := by
  have HT := hide (takeByte_any r e L w hr hL)
  clear hr
  generalize byteR L e = T at *
  go_enter Tryz.func204, Tryz.ntmps204
  go_wp2_with (go_at_call 223; refine (unhide HT).mono ?_; rintro x w' ⟨rfl, ht⟩)
  go_ret
  exact ⟨rfl, ht⟩
/- Fixed -/
/- Short -/
theorem takeShort_any (r e : Nat) (L : ByteArray) (w : World) (hr : Rd w r L e) (hL : L.size ≤ 1000000) :
    Calls Tryz.prog 225 #[.pointer (some ⟨r, 0, none⟩), .func (.func 253) #[] #[]] w fun x w' => x = .returned (.int .u64 ((shortR L e).1 : Int)) ∧ Told w w' r (shortR L e).2.1 (shortR L e).2.2 := by
  by_cases he : e ≠ 0
  · unfold shortR
    rw [if_pos he]
    exact take_err_u64 _ r e L w hr he
  · obtain rfl : e = 0 := by omega
    unfold shortR
    rw [if_neg he]
    refine take_short r _ _ _ L w hr hL (scan_le L) ((shortAhead41 w.heap.size r 0 L L _ (by unfold maxLen; omega) (box_cell _ _ _) (hr.alloc _)).mono ?_)
    rintro x w' ⟨n, k, er, h, rfl, rfl⟩
    rw [h]
    exact ⟨rfl, Told.tell (hr.alloc _) er⟩
set_option maxHeartbeats 400000 in
theorem rshort_any (r e : Nat) (L : ByteArray) (w : World) (hr : Rd w r L e) (hL : L.size ≤ 1000000) :
    Calls Tryz.prog 234 #[.pointer (some ⟨r, 0, none⟩)] w fun x w' => x = .returned (.int .u64 ((shortR L e).1 : Int)) ∧ Told w w' r (shortR L e).2.1 (shortR L e).2.2 := by
  have HT := hide (takeShort_any r e L w hr hL)
  clear hr
  generalize shortR L e = T at *
  go_enter Tryz.func234, Tryz.ntmps234
  go_wp2_with (go_at_call 225; refine (unhide HT).mono ?_; rintro x w' ⟨rfl, ht⟩)
  go_ret
  exact ⟨rfl, ht⟩
/- Text -/
theorem takeText_any (r e d : Nat) (L : ByteArray) (most : Int) (w : World) (hr : Rd w r L e) (hL : L.size ≤ 1000000) (hm : -9223372036854775808 ≤ most ∧ most ≤ 9223372036854775807) (hd : w.cell? ⟨d, 0, none⟩ = some (.int .i64 most)) :
    Calls Tryz.prog 254 #[.pointer (some ⟨r, 0, none⟩), .func (.func 255) #[] #[.pointer (some ⟨d, 0, none⟩)]] w fun x w' => x = .returned (.string (textR L e most).1) ∧ Told w w' r (textR L e most).2.1 (textR L e most).2.2 := by
  by_cases he : e ≠ 0
  · unfold textR
    rw [if_pos he]
    exact take_err_str _ r e L w hr he
  · obtain rfl : e = 0 := by omega
    unfold textR
    rw [if_neg he]
    have hd' : (w.alloc (.cells #[.pointer (some ⟨r, 0, none⟩)] 297)).cell? ⟨d, 0, none⟩ = some (.int .i64 most) :=
      (((Below.refl w.heap.size w).alloc (Nat.le_refl _) _).cell (World.block_lt_of_cell? w ⟨d, 0, none⟩ hd)).trans hd
    exact take_text r _ _ _ L w d hr hL (textOf_le L most) (textClosure w.heap.size r d L L most _ hL hm hd' (box_cell _ _ _) (hr.alloc _))
theorem Told.boxed {w w' : World} {o : Obj} {r e : Nat} {L : ByteArray} (h : Told (w.alloc o) w' r L e) : Told w w' r L e := ⟨grown_trans (grown_alloc w o _) h.1, h.2⟩
set_option maxHeartbeats 400000 in
theorem rtext_any (r e : Nat) (L : ByteArray) (most : Int) (w : World) (hr : Rd w r L e) (hL : L.size ≤ 1000000) (hm : -9223372036854775808 ≤ most ∧ most ≤ 9223372036854775807) :
    Calls Tryz.prog 236 #[.pointer (some ⟨r, 0, none⟩), .int .i64 most] w fun x w' => x = .returned (.string (textR L e most).1) ∧ Told w w' r (textR L e most).2.1 (textR L e most).2.2 := by
  have HT := hide (takeText_any r e w.heap.size L most (w.alloc (.cells #[.int .i64 most] 3)) (hr.alloc _) hL hm (box_cell _ _ _))
  clear hr
  generalize textR L e most = T at *
  go_enter Tryz.func236, Tryz.ntmps236
  go_wp2_with (go_at_call 254; refine (unhide HT).mono ?_; rintro x w' ⟨rfl, ht⟩)
  go_ret
  exact ⟨rfl, ht.boxed⟩
/- Left -/
/- End -/
end Go.Proofs.YtdelobaiicoogaaGreatDoor.L6

/- One entry is read, as the program reads it. -/
namespace Go.Proofs.YtdelobaiicoogaaGreatDoor.L6
open Go.ChangeShapes Go.WideShapes Go.ChangeAt Go.RowKit

theorem results_cell1 {fn : Func} {p : Tmp} {ty : TypeId} (h : fn.results = #[.cell p ty]) (tmps : Array Value) (P : Program) (w : World) :
    (results fn tmps).run P w = ((asAddr (tmps.getD p undef)).run P w).andThen fun a w₁ => (loadVar ty a).run P w₁ := by
  simp only [results, h]
  simp [Sem.run_bind, Result.andThen]

/-- THE DOCUMENT's: an item, a kid at the front: what is left, the error -/
def itemR (L : ByteArray) (e : Nat) : It × ByteArray × Nat :=
  (((textR L e 272).1, (textR (textR L e 272).2.1 (textR L e 272).2.2 160).1), (textR (textR L e 272).2.1 (textR L e 272).2.2 160).2.1, (textR (textR L e 272).2.1 (textR L e 272).2.2 160).2.2)
def kidR (L : ByteArray) (e : Nat) : Kd × ByteArray × Nat :=
  (((textR L e 272).1, wrap64 ((shortR (textR L e 272).2.1 (textR L e 272).2.2).1 : Int)), (shortR (textR L e 272).2.1 (textR L e 272).2.2).2.1, (shortR (textR L e 272).2.1 (textR L e 272).2.2).2.2)

theorem size_back (L : ByteArray) (k : Nat) : (L.extract k L.size).size ≤ L.size := by rw [ByteArray.size_extract]; omega
theorem byteR_le (L : ByteArray) (e : Nat) : (byteR L e).2.1.size ≤ L.size := by
  unfold byteR
  split
  · exact Nat.le_refl _
  · split
    · exact Nat.le_refl _
    · exact size_back _ _
theorem shortR_le (L : ByteArray) (e : Nat) : (shortR L e).2.1.size ≤ L.size := by
  unfold shortR
  split
  · exact Nat.le_refl _
  · exact size_back _ _
theorem textR_le (L : ByteArray) (e : Nat) (most : Int) : (textR L e most).2.1.size ≤ L.size := by
  unfold textR
  split
  · exact Nat.le_refl _
  · exact size_back _ _

/-- a new block of one's own beside the reader -/
theorem Told.pair {w w' : World} {r e : Nat} {L : ByteArray} {a b : Value} {t : TypeId} (h : Told (w.alloc (.cells #[a, b] t)) w' r L e) (hr : r < w.heap.size) : w'.heap[w.heap.size]? = some (.cells #[a, b] t (0, 0)) :=
  (h.1.block w.heap.size (by simp) (by simp; omega)).trans (heap_alloc_new w _)
theorem Told.pair' {w1 w' : World} {p r e : Nat} {L : ByteArray} {a b : Value} {t : TypeId} (h : Told w1 w' r L e) (hp : p ≠ r) (hh : w1.heap[p]? = some (.cells #[a, b] t (0, 0))) : w'.heap[p]? = some (.cells #[a, b] t (0, 0)) :=
  (h.1.block p (lt_of_block hh) (fun e => hp (Option.some.inj e))).trans hh
theorem Told.then {w w1 w2 : World} {r e e2 : Nat} {L L2 : ByteArray} (h : Told w w1 r L e) (k : Told w1 w2 r L2 e2) : Told w w2 r L2 e2 := ⟨grown_trans h.1 k.1, k.2⟩
theorem Told.store {w w' : World} {r e p : Nat} {L : ByteArray} (h : Told w w' r L e) (hp : w.heap.size ≤ p) (hr : r < w.heap.size) (j : Nat) (u : Value) : Told w (w'.setCell ⟨p, j, none⟩ u) r L e := by
  refine ⟨⟨h.1.os, h.1.tape, h.1.output, ?_, fun k hk hne => ?_⟩, ?_⟩
  · have := h.1.size
    simpa [World.setCell] using this
  · rw [Below.heap_setCell _ _ _ _ (show k ≠ p by omega)]
    exact h.1.block k hk hne
  · exact (Below.heap_setCell _ ⟨p, j, none⟩ _ _ (show r ≠ p by omega)).trans h.2

set_option maxRecDepth 10000 in
set_option maxHeartbeats 1000000 in
theorem readItem_any (r e : Nat) (L : ByteArray) (w : World) (hr : Rd w r L e) (hL : L.size ≤ 1000000) :
    Calls Tryz.prog 208 #[.pointer (some ⟨r, 0, none⟩)] w fun x w' => x = .returned (.agg #[.string (itemR L e).1.1, .string (itemR L e).1.2]) ∧ Told w w' r (itemR L e).2.1 (itemR L e).2.2 := by
  have hrl := hr.lt
  have hb := hr.alloc (.cells #[.string ⟨#[]⟩, .string ⟨#[]⟩] 58)
  have H1 := hide (rtext_any r e L 272 _ hb hL (by omega))
  have hle := textR_le L e 272
  have H2 := hide (fun W (hW : Rd W r (textR L e 272).2.1 (textR L e 272).2.2) => rtext_any r _ _ 160 W hW (by omega) (by omega))
  have e1 : (itemR L e).1.1 = (textR L e 272).1 := rfl
  have e2 : (itemR L e).1.2 = (textR (textR L e 272).2.1 (textR L e 272).2.2 160).1 := rfl
  have e3 : (itemR L e).2 = ((textR (textR L e 272).2.1 (textR L e 272).2.2 160).2.1, (textR (textR L e 272).2.1 (textR L e 272).2.2 160).2.2) := rfl
  rw [e1, e2, e3]
  have HR := hide hr
  clear e1 e2 e3 hb hr hle
  generalize textR L e 272 = T at *
  generalize textR T.2.1 T.2.2 160 = U at *
  go_enter Tryz.func208, Tryz.ntmps208
  go_wp2_with fail
  refine (unhide H1).mono ?_
  rintro x w1 ⟨rfl, ht⟩
  have HP := hide (ht.pair hrl)
  have HT := hide ht.boxed
  have HD := hide ht.2
  clear ht
  obtain ⟨p, hp⟩ : ∃ y, y = w.heap.size := ⟨_, rfl⟩
  rw [← hp] at HP ⊢
  have HPE := hide (And.intro (Nat.le_of_eq hp.symm) (show p ≠ r by omega))
  clear hp
  go_wp2_with fail
  refine (unhide H2 _ (unhide HD)).mono ?_
  rintro x w2 ⟨rfl, ht⟩
  have hp2 := ht.pair' (unhide HPE).2 (unhide HP)
  have HT2 := hide ((unhide HT).then ht)
  clear ht
  have c0 := two_cell0 hp2
  have c1 := two_cell1 hp2
  have f0 := two_free hp2 0
  have f1 := two_free hp2 1
  clear hp2
  go_wp2
  refine bodyPost_ret (v := .agg #[.string T.1, .string U.1]) ?_ rfl ⟨rfl, ?_⟩
  · rw [results_cell1 rfl]
    go_simp
  · exact ((unhide HT2).store (unhide HPE).1 hrl 0 _).store (unhide HPE).1 hrl 1 _

set_option maxRecDepth 10000 in
set_option maxHeartbeats 1000000 in
theorem readKid_any (r e : Nat) (L : ByteArray) (w : World) (hr : Rd w r L e) (hL : L.size ≤ 1000000) :
    Calls Tryz.prog 210 #[.pointer (some ⟨r, 0, none⟩)] w fun x w' => x = .returned (.agg #[.string (kidR L e).1.1, .int .i64 (kidR L e).1.2]) ∧ Told w w' r (kidR L e).2.1 (kidR L e).2.2 := by
  have hrl := hr.lt
  have hb := hr.alloc (.cells #[.string ⟨#[]⟩, .int .i64 0] 76)
  have H1 := hide (rtext_any r e L 272 _ hb hL (by omega))
  have hle := textR_le L e 272
  have H2 := hide (fun W (hW : Rd W r (textR L e 272).2.1 (textR L e 272).2.2) => rshort_any r _ _ W hW (by omega))
  have e1 : (kidR L e).1.1 = (textR L e 272).1 := rfl
  have e2 : (kidR L e).1.2 = wrap64 ((shortR (textR L e 272).2.1 (textR L e 272).2.2).1 : Int) := rfl
  have e3 : (kidR L e).2 = ((shortR (textR L e 272).2.1 (textR L e 272).2.2).2.1, (shortR (textR L e 272).2.1 (textR L e 272).2.2).2.2) := rfl
  rw [e1, e2, e3]
  have HR := hide hr
  clear e1 e2 e3 hb hr hle
  generalize textR L e 272 = T at *
  generalize shortR T.2.1 T.2.2 = U at *
  go_enter Tryz.func210, Tryz.ntmps210
  go_wp2_with fail
  refine (unhide H1).mono ?_
  rintro x w1 ⟨rfl, ht⟩
  have HP := hide (ht.pair hrl)
  have HT := hide ht.boxed
  have HD := hide ht.2
  clear ht
  obtain ⟨p, hp⟩ : ∃ y, y = w.heap.size := ⟨_, rfl⟩
  rw [← hp] at HP ⊢
  have HPE := hide (And.intro (Nat.le_of_eq hp.symm) (show p ≠ r by omega))
  clear hp
  go_wp2_with fail
  refine (unhide H2 _ (unhide HD)).mono ?_
  rintro x w2 ⟨rfl, ht⟩
  have hp2 := ht.pair' (unhide HPE).2 (unhide HP)
  have HT2 := hide ((unhide HT).then ht)
  clear ht
  have c0 := two_cell0 hp2
  have c1 := two_cell1 hp2
  have f0 := two_free hp2 0
  have f1 := two_free hp2 1
  clear hp2
  go_wp2
  refine bodyPost_ret (v := .agg #[.string T.1, .int .i64 (wrap64 (U.1 : Int))]) ?_ rfl ⟨rfl, ?_⟩
  · rw [results_cell1 rfl]
    go_simp
  · exact ((unhide HT2).store (unhide HPE).1 hrl 0 _).store (unhide HPE).1 hrl 1 _
end Go.Proofs.YtdelobaiicoogaaGreatDoor.L6
