/- What the two Joins do. -/
import Derived.Test.YtoogcejbhehoaaaDoorDn
namespace Go.Proofs.YtoogcejbhehoaaaDoor
open Go.ChangeShapes Go.WideShapes Go.ChangeAt Go.RowKit

/-- a path, and the error -/
def joinA (r : Option (List UInt8)) : Value := .tuple #[.string (tx (r.getD [])), .int .i64 (erO r)]
theorem joinL_len : ∀ (ns : List (List UInt8)) (m : Nat), (∀ n ∈ ns, n.length ≤ m) → (joinL ns).length ≤ ns.length * (m + 1)
  | [], m, _ => by simp [joinL_nil]
  | n :: ns, m, h => by
    have := joinL_len ns m (fun x hx => h x (by simp [hx]))
    have h2 := h n (by simp)
    rw [joinL_cons, List.length_append, List.length_cons, List.length_cons, Nat.succ_mul]
    omega
theorem take_at (ns : List (List UInt8)) (i : Nat) (h : i < ns.length) : ns.take (i + 1) = ns.take i ++ [ns.getD i []] := by
  rw [List.take_add_one, List.getElem?_eq_getElem h, List.getD_eq_getElem?_getD, List.getElem?_eq_getElem h]
  rfl
theorem tx_slash (x : List UInt8) : (⟨#[47]⟩ : ByteArray) ++ tx x = tx (47 :: x) := (tx_append [47] x).symm

theorem join_far {ns : List (List UInt8)} (h : 32 < ns.length) : joinR ns = none := by
  cases hj : joinR ns with
  | none => rfl
  | some p =>
    rw [join_iff] at hj
    rcases hj with ⟨rfl, _⟩ | ⟨_, h1, _⟩
    · simp at h
    · omega
theorem join_all {ns : List (List UInt8)} (h0 : ns ≠ []) (h1 : ns.length ≤ 32) (h2 : ∀ n ∈ ns, nameB n = true) : joinR ns = if (joinL ns).length ≤ 1023 then some (joinL ns) else none := by
  by_cases h : (joinL ns).length ≤ 1023
  · rw [if_pos h, join_iff]
    exact .inr ⟨h0, h1, h2, h, rfl⟩
  · rw [if_neg h]
    cases hj : joinR ns with
    | none => rfl
    | some p =>
      rw [join_iff] at hj
      rcases hj with ⟨h3, _⟩ | ⟨_, _, _, h3, _⟩
      · exact absurd h3 h0
      · exact absurd h3 h
theorem all_names {ns : List (List UInt8)} (h : ∀ k, k < ns.length → nameB (ns.getD k []) = true) : ∀ n ∈ ns, nameB n = true := by
  intro n hn
  obtain ⟨i, hi, rfl⟩ := List.mem_iff_getElem.1 hn
  have := h i hi
  rw [List.getD_eq_getElem?_getD, List.getElem?_eq_getElem hi] at this
  exact this

set_option maxHeartbeats 400000 in
set_option maxRecDepth 10000 in
theorem join_any (a : Option Addr) (cap : Nat) (ns : List (List UInt8)) (w : World) (hl : Ls w a ns) (hn : ns.length ≤ 100) (hm : ∀ n ∈ ns, n.length ≤ 4096) :
    Calls Tryd.prog 20 #[.slice a ns.length cap] w fun e w' => e = .returned (joinA (joinR ns)) ∧ Below w.heap.size w w' := by
  by_cases h0 : ns = []
  · subst h0
    go_enter Tryd.func20, Tryd.ntmps20
    go_wp2
    go_ret2
    exact ⟨rfl, Below.refl _ _⟩
  have hz : ¬ ns.length = 0 := fun h => h0 (List.length_eq_zero_iff.1 h)
  have g0 : ((ns.length : Int) == 0) = false := beq_eq_false_iff_ne.2 (by omega)
  have g0' : ¬ (ns.length : Int) = 0 := by omega
  by_cases h32 : 32 < ns.length
  · rw [join_far h32]
    have g1 : (32 : Int) < (ns.length : Int) := by omega
    clear h0 hl hm
    go_enter Tryd.func20, Tryd.ntmps20
    go_wp2
    go_ret2
    exact ⟨rfl, Below.refl _ _⟩
  have g1 : ¬ (32 : Int) < (ns.length : Int) := by omega
  obtain ⟨_, hls0 | ⟨b, off, rfl, hbw, hc⟩⟩ := hl
  · exact absurd hls0 hz
  have HC := hide hc
  have HM := hide hm
  have H0 := hide h0
  have hml : ∀ (i : Nat), (ns.getD i []).length ≤ 4096 := by
    intro i
    by_cases hi : i < ns.length
    · rw [List.getD_eq_getElem?_getD, List.getElem?_eq_getElem hi]
      exact hm _ (List.getElem_mem hi)
    · rw [List.getD_eq_getElem?_getD, List.getElem?_eq_none (by omega)]
      simp
  have hpl : ∀ i, (joinL (ns.take i)).length ≤ 500000 := by
    intro i
    have h1 := joinL_len (ns.take i) 4096 (fun n hn => hm n (List.mem_of_mem_take hn))
    have h2 : (ns.take i).length ≤ 100 := by rw [List.length_take]; omega
    have h3 := Nat.mul_le_mul_right (4096 + 1) h2
    omega
  have HML := hide hml
  have HPL := hide hpl
  clear hc hm h0 hml hpl
  go_enter Tryd.func20, Tryd.ntmps20
  go_wp2
  go_loopw [4, 6, 15] (fun p _ j wr => ∃ i : Nat, i ≤ ns.length ∧ j = .int .i64 i ∧ p = .string (tx (joinL (ns.take i))) ∧ (∀ k, k < i → nameB (ns.getD k []) = true) ∧ Below w.heap.size w wr) (fun _ _ j _ => ns.length - (intOf j).toNat)
  case atStart => exact ⟨0, Nat.zero_le _, rfl, rfl, fun k hk => by omega, Below.refl _ _⟩
  case round =>
    obtain ⟨i, hi, rfl, rfl, hall, hbel⟩ := hrel
    have HA := hide hall
    have HB := hide hbel
    clear hall
    by_cases hlt : i < ns.length
    · have hlt' : (i : Int) < (ns.length : Int) := by omega
      have hci : wr.cell? ⟨b, off + i, none⟩ = some (.string (tx (ns.getD i []))) := (hbel.cell hbw).trans (unhide HC i hlt)
      have hxl := unhide HML i
      have H1 := hide (fun W => name_any (tx (ns.getD i [])) W (by rw [tx_size]; omega))
      rw [bs_tx] at H1
      have hp1 := unhide HPL i
      have htk := take_at ns i hlt
      have hmem : ns.getD i [] ∈ ns := by
        rw [List.getD_eq_getElem?_getD, List.getElem?_eq_getElem hlt]
        exact List.getElem_mem _
      cases hnm : nameB (ns.getD i []) with
      | false =>
        rw [hnm] at H1
        have HX := hide (join_not hmem hnm)
        clear hnm hmem htk hbel hxl hp1
        generalize tx (ns.getD i []) = X at *
        generalize tx (joinL (ns.take i)) = P at *
        go_wp2_with (go_at_call 15; refine (unhide H1 _).mono ?_; rintro e w2 ⟨rfl, hb2⟩; have hb2 := hide (below_then (unhide HB) hb2))
        go_ret2
        rw [unhide HX]
        exact ⟨rfl, unhide hb2⟩
      | true =>
        rw [hnm] at H1
        have HR := hide (show ∀ k, k < i + 1 → nameB (ns.getD k []) = true by
          intro k hk
          by_cases hki : k < i
          · exact unhide HA k hki
          · obtain rfl : k = i := by omega
            exact hnm)
        have HT := hide (show tx (joinL (ns.take (i + 1))) = tx (joinL (ns.take i)) ++ ((⟨#[47]⟩ : ByteArray) ++ tx (ns.getD i [])) by rw [tx_slash, htk, joinL_snoc, tx_append])
        have hs1 : ¬ 9223372036854775807 < 1 + (tx (ns.getD i [])).size := by rw [tx_size]; omega
        have hs2 : ¬ 9223372036854775807 < (tx (joinL (ns.take i))).size + (1 + (tx (ns.getD i [])).size) := by rw [tx_size, tx_size]; omega
        have hs3 : ¬ 9223372036854775807 < (tx (joinL (ns.take i))).size + ((⟨#[47]⟩ : ByteArray) ++ tx (ns.getD i [])).size := by rw [tx_slash, tx_size, tx_size, List.length_cons]; omega
        clear hnm hmem htk hbel hxl hp1
        generalize tx (ns.getD i []) = X at *
        generalize tx (joinL (ns.take i)) = P at *
        go_wp2_with (go_at_call 15; refine (unhide H1 _).mono ?_; rintro e w2 ⟨rfl, hb2⟩; have hb2 := hide (below_then (unhide HB) hb2))
        go_roundw
        case rel => exact ⟨i + 1, by omega, by go_num, by rw [unhide HT], unhide HR, unhide hb2⟩
        case measure => simp [intOf]; omega
    · have hlt' : ¬ (i : Int) < (ns.length : Int) := by omega
      have hfull : ns.take i = ns := List.take_of_length_le (by omega)
      have HX := hide (join_all (unhide H0) (by omega) (all_names (fun k hk => unhide HA k (by omega))))
      rw [hfull]
      by_cases hs : (joinL ns).length ≤ 1023
      · rw [if_pos hs] at HX
        have g : ¬ (1023 : Int) < ((tx (joinL ns)).size : Int) := by rw [tx_size]; omega
        clear hfull hbel hs
        generalize hP : tx (joinL ns) = P at *
        have HP := hide hP
        clear hP
        go_wp2
        go_ret2
        rw [unhide HX]
        refine ⟨?_, unhide HB⟩
        unfold joinA
        rw [show (some (joinL ns)).getD [] = joinL ns from rfl, unhide HP]
        rfl
      · rw [if_neg hs] at HX
        have g : (1023 : Int) < ((tx (joinL ns)).size : Int) := by rw [tx_size]; omega
        clear hfull hbel hs
        generalize tx (joinL ns) = P at *
        go_wp2
        go_ret2
        rw [unhide HX]
        exact ⟨rfl, unhide HB⟩

end Go.Proofs.YtoogcejbhehoaaaDoor
