/- What the document's cut does: what stands between slashes. -/
import Derived.Test.YtoogcejbhehoaaaDoorRf
namespace Go.Proofs.YtoogcejbhehoaaaDoor
open Go.ChangeShapes Go.WideShapes Go.ChangeAt Go.RowKit

/-- a row of texts of one's own, as an answer -/
def Row (base : Nat) (w w' : World) (e : Ending) (l : List (List UInt8)) : Prop := ∃ a cap, e = .returned (.slice a l.length cap) ∧ Own base w' (.slice a l.length cap) l ∧ Below w.heap.size w w'

theorem ext_one (s : ByteArray) (i : Nat) (h : i < s.size) : s.extract i (i + 1) = tx [s[i]] := by
  apply bs_inj
  rw [bs_tx]
  unfold bs
  rw [ByteArray.data_extract, Array.toList_extract]
  have h' : i < s.data.toList.length := by rw [Array.length_toList]; exact h
  rw [List.extract_eq_take_drop, show i + 1 - i = 1 by omega, List.take_one, List.head?_drop, List.getElem?_eq_getElem h']
  rfl
theorem drop_at (s : ByteArray) (i : Nat) (h : i < s.size) : (bs s).drop i = s[i] :: (bs s).drop (i + 1) := by
  have h' : i < (bs s).length := by rw [bs_len]; exact h
  rw [List.drop_eq_getElem_cons h']
  rfl

set_option maxHeartbeats 4000000 in
set_option maxRecDepth 10000 in
theorem cut_any (s : ByteArray) (w : World) (hs : s.size ≤ 900000) :
    Calls Tryd.prog 33 #[.string s] w fun e w' => Row w.heap.size w w' e (cutW [] (bs s)) := by
  go_enter Tryd.func33, Tryd.ntmps33
  go_wp2
  go_loopw [3, 4, 5] (fun v t j wr => ∃ (i : Nat) (D : List (List UInt8)) (o : List UInt8), i ≤ s.size ∧ Own w.heap.size wr v D ∧ t = .string (tx o) ∧ j = .int .i64 i ∧ D ++ cutW o ((bs s).drop i) = cutW [] (bs s) ∧ o.length + D.length ≤ i ∧ Below w.heap.size w wr) (fun _ _ j _ => s.size - (intOf j).toNat)
  case atStart => exact ⟨0, [], [], Nat.zero_le _, Own.nil _ _, rfl, rfl, by simp, by simp, Below.refl _ _⟩
  case round =>
    obtain ⟨i, D, o, hi, hown, rfl, rfl, he, hlen, hb⟩ := hrel
    have hB : w.heap.size ≤ wr.heap.size := hb.size
    have HO := hide hown
    have HE := hide he
    have HB := hide hb
    have HL := hide hlen
    have hD : D.length ≤ 1000000 := by omega
    clear hown he hb hlen
    by_cases hlt : i < s.size
    · have hlt' : (i : Int) < (s.size : Int) := by omega
      have hdr := hide (drop_at s i hlt)
      by_cases c : s[i].toNat = 47
      · have hc : s[i] = 47 := UInt8.toNat_inj.1 c
        have HE2 := hide (show (D ++ [o]) ++ cutW [] ((bs s).drop (i + 1)) = cutW [] (bs s) by
          rw [← unhide HE, unhide hdr, hc, cutW_slash, List.append_assoc]
          rfl)
        clear hdr hc
        go_wp2_with (at_builtin; refine app_one (x := tx o) rfl _ _ rfl rfl rfl hB (unhide HO) hD ?_; intro a' cap' w' ho' hb'; rw [bs_tx] at ho'; have ho' := hide ho'; have hb' := hide hb')
        go_roundw
        case rel => exact ⟨i + 1, D ++ [o], [], by omega, by have := unhide ho'; unfold Own at this ⊢; rw [List.length_append]; rw [List.length_append] at this; exact this, rfl, by go_num, unhide HE2, by have := unhide HL; simp; omega, (unhide HB).trans (unhide hb')⟩
        case measure => simp [intOf]; omega
      · have t1 : ((s[i].toNat : Int) == 47) = false := beq_eq_false_iff_ne.2 (by omega)
        have hc : s[i] ≠ 47 := fun h => c (by rw [h]; rfl)
        have HE2 := hide (show D ++ cutW (o ++ [s[i]]) ((bs s).drop (i + 1)) = cutW [] (bs s) by
          rw [← unhide HE, unhide hdr, cutW_step _ _ hc])
        have hx := ext_one s i hlt
        have hcat : ¬ 9223372036854775807 < (tx o).size + (tx [s[i]]).size := by rw [tx_size, tx_size]; simp; have := unhide HL; omega
        have hsz : (tx [s[i]]).size = 1 := tx_size _
        clear hdr hc
        go_wp2
        go_roundw
        case rel => exact ⟨i + 1, D, o ++ [s[i]], by omega, unhide HO, by rw [tx_append], by go_num, unhide HE2, by have := unhide HL; simp; omega, unhide HB⟩
        case measure => simp [intOf]; omega
    · have hlt' : ¬ (i : Int) < (s.size : Int) := by omega
      have HE2 := hide (show D ++ [o] = cutW [] (bs s) by
        rw [← unhide HE, List.drop_eq_nil_of_le (by rw [bs_len]; omega), cutW_nil])
      go_wp2_with (at_builtin; refine app_one (x := tx o) rfl _ _ rfl rfl rfl hB (unhide HO) hD ?_; intro a' cap' w' ho' hb'; rw [bs_tx] at ho'; have ho' := hide ho'; have hb' := hide hb')
      go_ret
      have ho := unhide ho'
      rw [← unhide HE2]
      refine ⟨a', cap', by rw [List.length_append]; rfl, ?_, (unhide HB).trans (unhide hb')⟩
      unfold Own at ho ⊢
      rw [List.length_append] at ho ⊢
      exact ho
end Go.Proofs.YtoogcejbhehoaaaDoor
