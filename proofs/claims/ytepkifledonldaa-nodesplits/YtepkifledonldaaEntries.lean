/- Entries are read, as the program reads them. -/
import Derived.Test.YtepkifledonldaaOwnrow
namespace Go.Proofs.Ytepkifledonldaa
open Go.ChangeShapes Go.WideShapes Go.ChangeAt Go.RowKit

/-- how many, and the entries -/
def countR {α : Type} (f : ByteArray → Nat → α × ByteArray × Nat) (L : ByteArray) (e : Nat) : List α × ByteArray × Nat := listR f (shortR L e).1 (shortR L e).2.1 (shortR L e).2.2
theorem shortR_lt (L : ByteArray) (e : Nat) : (shortR L e).1 < 18446744073709551616 := by
  unfold shortR
  split
  · show (0 : Nat) < _
    decide
  · rcases scan_cases L with ⟨n, k, hsc, hn, _⟩ | ⟨er, hsc, _⟩
    · rw [hsc]; exact hn
    · rw [hsc]; show (0 : Nat) < _; decide

set_option maxRecDepth 10000 in
set_option maxHeartbeats 4000000 in
theorem entriesI_any (r e0 : Nat) (L0 : ByteArray) (w : World) (hr : Rd w r L0 e0) (hL : L0.size ≤ 1000000) :
    Calls Try.prog 54 #[.pointer (some ⟨r, 0, none⟩), .func (.func 55) #[] #[]] w fun x w' => ∃ a cap, x = .returned (.slice a (countR itemR L0 e0).1.length cap) ∧ OwnE Value.string 47 w.heap.size w' (.slice a (countR itemR L0 e0).1.length cap) (countR itemR L0 e0).1 ∧ Told w w' r (countR itemR L0 e0).2.1 (countR itemR L0 e0).2.2 := by
  have HR := hide hr
  have HC := hide (rshort_any r e0 L0 w hr hL)
  have hle := shortR_le L0 e0
  have hlt := shortR_lt L0 e0
  have HCR : Hid (countR itemR L0 e0 = listR itemR (shortR L0 e0).1 (shortR L0 e0).2.1 (shortR L0 e0).2.2) := rfl
  clear hr
  go_enter Try.func54, Try.ntmps54
  go_wp2_with fail
  refine (unhide HC).mono ?_
  rintro x w1 ⟨rfl, ht⟩
  have HT := hide ht
  clear ht HC
  generalize shortR L0 e0 = S at *
  obtain ⟨C, L1, e1⟩ := S
  simp only at hle hlt HT HCR ⊢
  go_wp2
  go_loopw [5, 6] (fun v t wr => ∃ (c : Nat) (pre : List It) (L : ByteArray) (e : Nat), t = .int .u64 c ∧ c ≤ C ∧ Lat itemR C L1 e1 pre c L e ∧ OwnE Value.string 47 w.heap.size wr v pre ∧ Told w wr r L e) (fun _ t _ => (intOf t).toNat)
  case atStart => exact ⟨C, [], L1, e1, rfl, Nat.le_refl _, Lat.start _ _ _ _, OwnE.nil _ _ _ _, unhide HT⟩
  case round =>
    obtain ⟨c, pre, L, e, rfl, hc, hlat, hown, htold⟩ := hrel
    have HLat := hide hlat
    have HO := hide hown
    have HTo := hide htold
    obtain ⟨a, cap, rfl⟩ := hown.form
    clear hlat hown htold
    by_cases h0 : c = 0
    · subst h0
      have HD := hide (unhide HLat).done
      go_wp2
      go_ret
      have e := (unhide HCR).trans (unhide HD)
      rw [e]
      exact ⟨a, cap, rfl, unhide HO, unhide HTo⟩
    · have hp : 0 < c := by omega
      clear h0
      go_wp2_with fail
      refine (err_any r e L wr (unhide HTo).2).mono ?_
      rintro x w3 ⟨rfl, hw⟩
      have hw := hw.symm
      subst hw
      by_cases he : e = 0
      · subst he
        have hsz := (unhide HLat).many rfl
        have hls := (unhide HLat).less
        obtain ⟨c', rfl⟩ : ∃ c', c = c' + 1 := ⟨c - 1, by omega⟩
        have HN := hide ((unhide HLat).next itemR_le itemR_lt)
        go_wp2_with fail
        refine (readItem_any r 0 L _ (unhide HTo).2 (by omega)).mono ?_
        rintro x w4 ⟨rfl, ht⟩
        have HO4 := hide ((unhide HO).told (by decide) (unhide HTo).2 ht)
        have HT4 := hide ((unhide HTo).then ht)
        clear ht
        have hB : w.heap.size ≤ w4.heap.size := (unhide HT4).1.size
        have hwr : IntKind.u64.wrap ((c' : Int) + 1 - 1) = (c' : Int) := by rw [IntKind.wrap_u64]; omega
        go_wp2_with (at_builtin; refine app_gen (news := [.string (itemR L 0).1.1, .string (itemR L 0).1.2]) Try.underlying22 info47 rfl (by decide) rfl _ _ rfl rfl rfl (unhide HO4) hB rfl ?_ ?_ ?_ ?_; (exact pair_one rfl); omega; omega; intro a' cap' w5 ho' hg' _; have HO5 := hide (OwnE.snoc (sv := Value.string) (x := (itemR L 0).1) ho'); have HT5 := hide ((unhide HT4).app (by decide) (unhide HO4) (Nat.le_refl _) hg'); clear ho' hg')
        go_roundw
        case rel => exact ⟨c', pre ++ [(itemR L 0).1], (itemR L 0).2.1, (itemR L 0).2.2, by go_num, by omega, unhide HN, unhide HO5, unhide HT5⟩
        case measure => first | (simp [intOf]; done) | (simp [intOf]; omega)
      · have HD := hide ((unhide HLat).err he)
        have f0 : ((e : Int) == 0) = false := beq_eq_false_iff_ne.2 (by omega)
        clear he
        go_wp2
        go_ret
        have e' := (unhide HCR).trans (unhide HD)
        rw [e']
        exact ⟨a, cap, rfl, unhide HO, unhide HTo⟩

set_option maxRecDepth 10000 in
set_option maxHeartbeats 4000000 in
theorem entriesK_any (r e0 : Nat) (L0 : ByteArray) (w : World) (hr : Rd w r L0 e0) (hL : L0.size ≤ 1000000) :
    Calls Try.prog 56 #[.pointer (some ⟨r, 0, none⟩), .func (.func 57) #[] #[]] w fun x w' => ∃ a cap, x = .returned (.slice a (countR kidR L0 e0).1.length cap) ∧ OwnE kv 49 w.heap.size w' (.slice a (countR kidR L0 e0).1.length cap) (countR kidR L0 e0).1 ∧ Told w w' r (countR kidR L0 e0).2.1 (countR kidR L0 e0).2.2 := by
  have HR := hide hr
  have HC := hide (rshort_any r e0 L0 w hr hL)
  have hle := shortR_le L0 e0
  have hlt := shortR_lt L0 e0
  have HCR : Hid (countR kidR L0 e0 = listR kidR (shortR L0 e0).1 (shortR L0 e0).2.1 (shortR L0 e0).2.2) := rfl
  clear hr
  go_enter Try.func56, Try.ntmps56
  go_wp2_with fail
  refine (unhide HC).mono ?_
  rintro x w1 ⟨rfl, ht⟩
  have HT := hide ht
  clear ht HC
  generalize shortR L0 e0 = S at *
  obtain ⟨C, L1, e1⟩ := S
  simp only at hle hlt HT HCR ⊢
  go_wp2
  go_loopw [5, 6] (fun v t wr => ∃ (c : Nat) (pre : List Kd) (L : ByteArray) (e : Nat), t = .int .u64 c ∧ c ≤ C ∧ Lat kidR C L1 e1 pre c L e ∧ OwnE kv 49 w.heap.size wr v pre ∧ Told w wr r L e) (fun _ t _ => (intOf t).toNat)
  case atStart => exact ⟨C, [], L1, e1, rfl, Nat.le_refl _, Lat.start _ _ _ _, OwnE.nil _ _ _ _, unhide HT⟩
  case round =>
    obtain ⟨c, pre, L, e, rfl, hc, hlat, hown, htold⟩ := hrel
    have HLat := hide hlat
    have HO := hide hown
    have HTo := hide htold
    obtain ⟨a, cap, rfl⟩ := hown.form
    clear hlat hown htold
    by_cases h0 : c = 0
    · subst h0
      have HD := hide (unhide HLat).done
      go_wp2
      go_ret
      have e := (unhide HCR).trans (unhide HD)
      rw [e]
      exact ⟨a, cap, rfl, unhide HO, unhide HTo⟩
    · have hp : 0 < c := by omega
      clear h0
      go_wp2_with fail
      refine (err_any r e L wr (unhide HTo).2).mono ?_
      rintro x w3 ⟨rfl, hw⟩
      have hw := hw.symm
      subst hw
      by_cases he : e = 0
      · subst he
        have hsz := (unhide HLat).many rfl
        have hls := (unhide HLat).less
        obtain ⟨c', rfl⟩ : ∃ c', c = c' + 1 := ⟨c - 1, by omega⟩
        have HN := hide ((unhide HLat).next kidR_le kidR_lt)
        go_wp2_with fail
        refine (readKid_any r 0 L _ (unhide HTo).2 (by omega)).mono ?_
        rintro x w4 ⟨rfl, ht⟩
        have HO4 := hide ((unhide HO).told (by decide) (unhide HTo).2 ht)
        have HT4 := hide ((unhide HTo).then ht)
        clear ht
        have hB : w.heap.size ≤ w4.heap.size := (unhide HT4).1.size
        have hwr : IntKind.u64.wrap ((c' : Int) + 1 - 1) = (c' : Int) := by rw [IntKind.wrap_u64]; omega
        go_wp2_with (at_builtin; refine app_gen (news := [.string (kidR L 0).1.1, .int .i64 (kidR L 0).1.2]) Try.underlying23 info49 rfl (by decide) rfl _ _ rfl rfl rfl (unhide HO4) hB rfl ?_ ?_ ?_ ?_; (exact pair_one rfl); omega; omega; intro a' cap' w5 ho' hg' _; have HO5 := hide (OwnE.snoc (sv := kv) (x := (kidR L 0).1) ho'); have HT5 := hide ((unhide HT4).app (by decide) (unhide HO4) (Nat.le_refl _) hg'); clear ho' hg')
        go_roundw
        case rel => exact ⟨c', pre ++ [(kidR L 0).1], (kidR L 0).2.1, (kidR L 0).2.2, by go_num, by omega, unhide HN, unhide HO5, unhide HT5⟩
        case measure => first | (simp [intOf]; done) | (simp [intOf]; omega)
      · have HD := hide ((unhide HLat).err he)
        have f0 : ((e : Int) == 0) = false := beq_eq_false_iff_ne.2 (by omega)
        clear he
        go_wp2
        go_ret
        have e' := (unhide HCR).trans (unhide HD)
        rw [e']
        exact ⟨a, cap, rfl, unhide HO, unhide HTo⟩
end Go.Proofs.Ytepkifledonldaa
