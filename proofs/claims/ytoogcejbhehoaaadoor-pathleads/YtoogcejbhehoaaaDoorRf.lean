/- What the document's OrphanOf does. -/
import Derived.Test.YtoogcejbhehoaaaDoorOf
namespace Go.Proofs.YtoogcejbhehoaaaDoor
open Go.ChangeShapes Go.WideShapes Go.ChangeAt Go.RowKit

theorem two_of {s : ByteArray} (h : 2 ≤ s.size) : ∃ c ds, bs s = s[0] :: c :: ds ∧ c = s[1] := by
  have hl := bs_len s
  match hb : bs s with
  | [] => rw [hb] at hl; simp at hl; omega
  | [_] => rw [hb] at hl; simp at hl; omega
  | a :: c :: ds =>
    have h0 := bs_at s 0 (by omega)
    have h1 := bs_at s 1 (by omega)
    rw [hb] at h0 h1
    simp at h0 h1
    exact ⟨c, ds, by rw [h0], h1⟩
theorem orph_none {z : UInt8} {ds : List UInt8} (h : ¬ (z = 0 ∧ ds ≠ [] ∧ ds.length ≤ 13 ∧ ds.head? ≠ some 48 ∧ (∀ c ∈ ds, digB c = true) ∧ 1 ≤ valF 0 ds ∧ valF 0 ds ≤ 1099511627776)) : orphR (z :: ds) = none := by
  show (if _ then _ else _) = _
  rw [if_neg h]
theorem ofA_none {l : List UInt8} (h : orphR l = none) : ofA l = .tuple #[.int .i64 0, .bool false] := by unfold ofA; rw [h]; rfl
theorem ofA_some {l : List UInt8} {n : Nat} (h : orphR l = some n) : ofA l = .tuple #[.int .i64 (n : Int), .bool true] := by unfold ofA; rw [h]; rfl

set_option maxHeartbeats 4000000 in
set_option maxRecDepth 10000 in
theorem refOrphanOf_any (s : ByteArray) (w : World) (hs : s.size ≤ 1000000) :
    Calls Tryd.prog 25 #[.string s] w fun e w' => e = .returned (ofA (bs s)) ∧ w' = w := by
  by_cases c0 : s.size < 2
  · have hn : orphR (bs s) = none := by
      have hl := bs_len s
      match hb : bs s with
      | [] => rfl
      | [_] => exact orph_none (by simp)
      | _ :: _ :: _ => rw [hb] at hl; simp at hl; omega
    rw [ofA_none hn]
    have g : (s.size : Int) < 2 := by omega
    clear hn
    go_enter Tryd.func25, Tryd.ntmps25
    go_wp2
    go_ret2
    exact ⟨rfl, rfl⟩
  obtain ⟨c, ds, hb, hc⟩ := two_of (s := s) (by omega)
  have hl := bs_len s
  rw [hb] at hl ⊢
  simp only [List.length_cons] at hl
  have h00 : 0 < s.size := by omega
  have h11 : 1 < s.size := by omega
  have g0 : ¬ (s.size : Int) < 2 := by omega
  by_cases c1 : 14 < s.size
  · rw [ofA_none (orph_none (fun h => by have := h.2.2.1; simp at this; omega))]
    have g : (14 : Int) < (s.size : Int) := by omega
    clear hb hc hl
    go_enter Tryd.func25, Tryd.ntmps25
    go_wp2
    go_ret2
    exact ⟨rfl, rfl⟩
  have g1 : ¬ (14 : Int) < (s.size : Int) := by omega
  by_cases c2 : s[0].toNat = 0
  case neg =>
    rw [ofA_none (orph_none (fun h => c2 (by rw [h.1]; rfl)))]
    have g : ((s[0].toNat : Int) == 0) = false := beq_eq_false_iff_ne.2 (by omega)
    have g' : ¬ (s[0].toNat : Int) = 0 := by omega
    clear hb hc hl
    go_enter Tryd.func25, Tryd.ntmps25
    go_wp2
    go_ret2
    exact ⟨rfl, rfl⟩
  have hz : s[0] = 0 := UInt8.toNat_inj.1 c2
  by_cases c3 : s[1].toNat = 48
  · rw [ofA_none (orph_none (fun h => h.2.2.2.1 (by simp; rw [hc]; exact UInt8.toNat_inj.1 c3)))]
    clear hb hc hl hz
    go_enter Tryd.func25, Tryd.ntmps25
    go_wp2
    go_ret2
    exact ⟨rfl, rfl⟩
  have g3 : ((s[1].toNat : Int) == 48) = false := beq_eq_false_iff_ne.2 (by omega)
  have g3' : ¬ (s[1].toNat : Int) = 48 := by omega
  have hat : ∀ i, i < s.size → 1 ≤ i → (c :: ds).getD (i - 1) 0 = s[i]! := by
    intro i hi h1
    have := bs_at s i hi
    rw [hb] at this
    obtain ⟨j, rfl⟩ : ∃ j, i = j + 1 := ⟨i - 1, by omega⟩
    rw [getElem!_pos s (j + 1) hi, ← this]
    simp
  have hhead : (c :: ds).head? ≠ some 48 := by
    intro h
    simp at h
    exact c3 (by rw [← hc, h]; rfl)
  have hlen : (c :: ds).length + 1 = s.size := by simp; omega
  have hne : (c :: ds) ≠ [] := by simp
  generalize c :: ds = D at *
  have HA := hide hat
  have HH := hide hhead
  have HN := hide hne
  have HL := hide hlen
  rw [hz]
  clear hat hhead hne hb hc hl
  have HZ := hide hz
  clear hz
  go_enter Tryd.func25, Tryd.ntmps25
  go_wp2
  go_loop [4, 5] (fun t j => ∃ i k : Nat, 1 ≤ i ∧ i ≤ s.size ∧ j = .int .i64 i ∧ t = .int .i64 k ∧ k = valF 0 (D.take (i - 1)) ∧ ∀ x ∈ D.take (i - 1), digB x = true) (fun _ j => s.size - (intOf j).toNat)
  case atStart => exact ⟨1, 0, by omega, by omega, rfl, rfl, by simp [valF_nil], by simp⟩
  case round =>
    obtain ⟨i, k, hi1, hi, rfl, rfl, hk, hd⟩ := hrel
    have hkb : k ≤ 10000000000000 := by
      have := valF_lt (D.take (i - 1)) 0 hd
      rw [← hk, List.length_take] at this
      have h2 : 10 ^ min (i - 1) D.length ≤ 10 ^ 13 := Nat.pow_le_pow_right (by omega) (by have := unhide HL; omega)
      omega
    have HK := hide hk
    have HD := hide hd
    clear hk hd
    by_cases hlt : i < s.size
    · have hlt' : (i : Int) < (s.size : Int) := by omega
      have hx : D.getD (i - 1) 0 = s[i] := by rw [unhide HA i hlt hi1, getElem!_pos s i hlt]
      have hmem : s[i] ∈ D := by
        rw [← hx, List.getD_eq_getElem?_getD, List.getElem?_eq_getElem (by have := unhide HL; omega)]
        exact List.getElem_mem _
      by_cases b1 : s[i].toNat < 48
      · have HX := hide (ofA_none (orph_none (z := 0) (ds := D) (fun h => by
          have := h.2.2.2.2.1 _ hmem
          simp only [digB, Bool.and_eq_true, decide_eq_true_eq] at this
          omega)))
        have b1' : (s[i].toNat : Int) < 48 := by omega
        clear hx hmem
        go_wp2
        go_ret2
        rw [unhide HX]
        exact ⟨rfl, rfl⟩
      have b1' : ¬ (s[i].toNat : Int) < 48 := by omega
      by_cases b2 : 57 < s[i].toNat
      · have HX := hide (ofA_none (orph_none (z := 0) (ds := D) (fun h => by
          have := h.2.2.2.2.1 _ hmem
          simp only [digB, Bool.and_eq_true, decide_eq_true_eq] at this
          omega)))
        have b2' : (57 : Int) < (s[i].toNat : Int) := by omega
        clear hx hmem
        go_wp2
        go_ret2
        rw [unhide HX]
        exact ⟨rfl, rfl⟩
      have b2' : ¬ (57 : Int) < (s[i].toNat : Int) := by omega
      have htk : D.take (i + 1 - 1) = D.take (i - 1) ++ [s[i]] := by
        rw [show i + 1 - 1 = i - 1 + 1 by omega, List.take_add_one, List.getElem?_eq_getElem (by have := unhide HL; omega), ← hx, List.getD_eq_getElem?_getD, List.getElem?_eq_getElem (by have := unhide HL; omega)]
        rfl
      have HV := hide (show 10 * k + (s[i].toNat - 48) = valF 0 (D.take (i + 1 - 1)) ∧ ∀ x ∈ D.take (i + 1 - 1), digB x = true by
        rw [htk, valF_snoc, ← unhide HK]
        refine ⟨rfl, fun x hx => ?_⟩
        rcases List.mem_append.1 hx with h | h
        · exact unhide HD x h
        · rw [List.mem_singleton] at h
          subst h
          simp only [digB, Bool.and_eq_true, decide_eq_true_eq]
          omega)
      clear hx hmem htk
      have b3 : (0 : Int) ≤ (s[i].toNat : Int) - 48 := by omega
      have b4 : (s[i].toNat : Int) - 48 ≤ 9 := by omega
      go_wp2
      go_round
      case rel => exact ⟨i + 1, 10 * k + (s[i].toNat - 48), by omega, by omega, by go_num, by go_num, (unhide HV).1, (unhide HV).2⟩
      case measure => simp [intOf]; omega
    · have hlt' : ¬ (i : Int) < (s.size : Int) := by omega
      have hall : D.take (i - 1) = D := List.take_of_length_le (by have := unhide HL; omega)
      have HK2 := unhide HK
      have HD2 := unhide HD
      rw [hall] at HK2 HD2
      by_cases b1 : k < 1
      · have HX := hide (ofA_none (orph_none (z := 0) (ds := D) (fun h => by omega)))
        have b1' : (k : Int) < 1 := by omega
        clear hall HK2 HD2
        go_wp2
        go_ret2
        rw [unhide HX]
        exact ⟨rfl, rfl⟩
      have b1' : ¬ (k : Int) < 1 := by omega
      by_cases b2 : 1099511627776 < k
      · have HX := hide (ofA_none (orph_none (z := 0) (ds := D) (fun h => by omega)))
        have b2' : (1099511627776 : Int) < (k : Int) := by omega
        clear hall HK2 HD2
        go_wp2
        go_ret2
        rw [unhide HX]
        exact ⟨rfl, rfl⟩
      have b2' : ¬ (1099511627776 : Int) < (k : Int) := by omega
      have HX := hide (ofA_some (l := 0 :: D) (n := k) (by
        show (if _ then _ else _) = _
        rw [if_pos ⟨rfl, unhide HN, by have := unhide HL; omega, unhide HH, HD2, by omega, by omega⟩, ← HK2]))
      clear hall HK2 HD2
      go_wp2
      go_ret2
      rw [unhide HX]
      exact ⟨rfl, rfl⟩
end Go.Proofs.YtoogcejbhehoaaaDoor
