/- What the document's Join does. -/
import Derived.Test.YtoogcejbhehoaaaDoorJo
namespace Go.Proofs.YtoogcejbhehoaaaDoor
open Go.ChangeShapes Go.WideShapes Go.ChangeAt Go.RowKit

set_option maxHeartbeats 1000000 in
set_option maxRecDepth 10000 in
theorem refJoin_any (a : Option Addr) (cap : Nat) (ns : List (List UInt8)) (w : World) (hl : Ls w a ns) (hn : ns.length ≤ 100) (hm : ∀ n ∈ ns, n.length ≤ 4096) :
    Calls Tryd.prog 21 #[.slice a ns.length cap] w fun e w' => e = .returned (joinA (joinR ns)) ∧ Below w.heap.size w w' := by
  have HL := hide hl
  have HM := hide hm
  have hml : ∀ (i : Nat), (ns.getD i []).length ≤ 4096 := by
    intro i
    by_cases hi : i < ns.length
    · rw [List.getD_eq_getElem?_getD, List.getElem?_eq_getElem hi]
      exact hm _ (List.getElem_mem hi)
    · rw [List.getD_eq_getElem?_getD, List.getElem?_eq_none (by omega)]
      simp
  have hpl : ∀ i, (joinL (ns.take i)).length ≤ 500000 := by
    intro i
    have h1 := joinL_len (ns.take i) 4096 (fun n hn => hm n (List.mem_of_mem_take hn))
    have h2 : (ns.take i).length ≤ 100 := by rw [List.length_take]; omega
    have h3 := Nat.mul_le_mul_right (4096 + 1) h2
    omega
  have HML := hide hml
  have HPL := hide hpl
  clear hl hm hml hpl
  go_enter Tryd.func21, Tryd.ntmps21
  go_wp2
  go_loop [4, 5] (fun p j => ∃ i : Nat, i ≤ ns.length ∧ j = .int .i64 i ∧ p = .string (tx (joinL (ns.take i))) ∧ (∀ k, k < i → nameB (ns.getD k []) = true)) (fun _ j => ns.length - (intOf j).toNat)
  case atStart => exact ⟨0, Nat.zero_le _, rfl, rfl, fun k hk => by omega⟩
  case round =>
    obtain ⟨i, hi, rfl, rfl, hall⟩ := hrel
    have HA := hide hall
    clear hall
    by_cases hlt : i < ns.length
    · have hlt' : (i : Int) < (ns.length : Int) := by omega
      obtain ⟨_, hls0 | ⟨b, off, rfl, hbw, hc⟩⟩ := unhide HL
      · omega
      have hci : w.cell? ⟨b, off + i, none⟩ = some (.string (tx (ns.getD i []))) := hc i hlt
      have hxl := unhide HML i
      have H1 := hide (fun W => refName_any (tx (ns.getD i [])) W (by rw [tx_size]; omega))
      rw [bs_tx] at H1
      have hp1 := unhide HPL i
      have htk := take_at ns i hlt
      have hmem : ns.getD i [] ∈ ns := by
        rw [List.getD_eq_getElem?_getD, List.getElem?_eq_getElem hlt]
        exact List.getElem_mem _
      clear hc
      cases hnm : nameB (ns.getD i []) with
      | false =>
        rw [hnm] at H1
        have HX := hide (join_not hmem hnm)
        clear hnm hmem htk hxl hp1
        generalize tx (ns.getD i []) = X at *
        generalize tx (joinL (ns.take i)) = P at *
        go_wp2_with (go_at_call 16; refine (unhide H1 _).mono ?_; rintro e w2 ⟨rfl, rfl⟩)
        go_ret2
        rw [unhide HX]
        exact ⟨rfl, Below.refl _ _⟩
      | true =>
        rw [hnm] at H1
        have HR := hide (show ∀ k, k < i + 1 → nameB (ns.getD k []) = true by
          intro k hk
          by_cases hki : k < i
          · exact unhide HA k hki
          · obtain rfl : k = i := by omega
            exact hnm)
        have hT1 : tx (joinL (ns.take i)) ++ (⟨#[47]⟩ : ByteArray) = tx (joinL (ns.take i) ++ [47]) := (tx_append _ [47]).symm
        have HT := hide (show tx (joinL (ns.take (i + 1))) = tx (joinL (ns.take i) ++ [47]) ++ tx (ns.getD i []) by rw [← tx_append, htk, joinL_snoc, List.append_assoc]; rfl)
        have hs1 : ¬ 9223372036854775807 < (tx (joinL (ns.take i))).size + 1 := by rw [tx_size]; omega
        have hs2 : ¬ 9223372036854775807 < (tx (joinL (ns.take i) ++ [47])).size + (tx (ns.getD i [])).size := by rw [tx_size, tx_size, List.length_append, List.length_singleton]; omega
        have hs3 : ¬ 9223372036854775807 < (tx (joinL (ns.take i))).size + 1 + (tx (ns.getD i [])).size := by rw [tx_size, tx_size]; omega
        clear hnm hmem htk hxl hp1
        generalize tx (joinL (ns.take i) ++ [47]) = P2 at *
        generalize tx (ns.getD i []) = X at *
        generalize tx (joinL (ns.take i)) = P at *
        go_wp2_with (go_at_call 16; refine (unhide H1 _).mono ?_; rintro e w2 ⟨rfl, rfl⟩)
        go_round
        case rel => exact ⟨i + 1, by omega, by go_num, by rw [unhide HT], unhide HR⟩
        case measure => simp [intOf]; omega
    · have hlt' : ¬ (i : Int) < (ns.length : Int) := by omega
      have hfull : ns.take i = ns := List.take_of_length_le (by omega)
      have hp1 := unhide HPL i
      rw [hfull] at hp1 ⊢
      by_cases h0 : ns = []
      · subst h0
        have k1 : (tx (joinL [])).toList.isEmpty = true := by rw [toList_bs, bs_tx]; rfl
        have H2 := hide (refSplit_any ⟨#[47]⟩ w (by decide))
        rw [show bs ⟨#[47]⟩ = [47] from rfl, walk_root] at H2
        clear hfull hp1
        generalize tx (joinL []) = P at *
        go_wp2_with (go_at_call 10; refine (unhide H2).mono ?_; intro e w2 h2; obtain ⟨a2, cap2, rfl, hl2, hb2⟩ := h2.of_some; clear h2; have hb2 := hide hb2)
        go_ret2
        exact ⟨rfl, unhide hb2⟩
      · have hne : joinL ns ≠ [] := by
          intro h
          match ns, h0 with
          | n :: ns, _ => rw [joinL_cons] at h; simp at h
        have k1 : (tx (joinL ns)).toList.isEmpty = false := full_of (by rw [bs_tx]; exact hne)
        have HX := hide (join_is ns h0 (all_names (fun k hk => unhide HA k (by omega))))
        have H2 := hide (fun W => refSplit_any (tx (joinL ns)) W (by rw [tx_size]; omega))
        rw [bs_tx] at H2
        have HP := hide (show ∃ P, P = tx (joinL ns) from ⟨_, rfl⟩)
        clear hfull hp1 hne h0
        generalize walkR false (joinL ns) = R at *
        obtain ⟨P, hP⟩ := unhide HP
        have HPP := hide hP
        rw [← hP] at k1 H2 ⊢
        clear hP
        cases R with
        | none =>
          go_wp2_with (go_at_call 10; refine (unhide H2 _).mono ?_; intro e w2 h2; obtain ⟨a2, cap2, rfl, hb2⟩ := h2.of_none; clear h2; have hb2 := hide hb2)
          go_ret2
          rw [unhide HX]
          exact ⟨rfl, unhide hb2⟩
        | some l =>
          go_wp2_with (go_at_call 10; refine (unhide H2 _).mono ?_; intro e w2 h2; obtain ⟨a2, cap2, rfl, hl2, hb2⟩ := h2.of_some; clear h2 hl2; have hb2 := hide hb2)
          go_ret2
          rw [unhide HX]
          refine ⟨?_, unhide hb2⟩
          have hP := unhide HPP
          subst hP
          rfl
end Go.Proofs.YtoogcejbhehoaaaDoor
