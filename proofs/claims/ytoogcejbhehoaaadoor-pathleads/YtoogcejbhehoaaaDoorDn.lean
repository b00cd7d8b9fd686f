/- What the program's down, Split, Loose, Lead do. -/
import Derived.Test.YtoogcejbhehoaaaDoorPa
import Derived.Shelf.Abstract
namespace Go.Proofs.YtoogcejbhehoaaaDoor
open Go.ChangeShapes Go.WideShapes Go.ChangeAt Go.RowKit Go.Shelf

/-- what stands behind a slash each -/
def downR (fits : Nat → List UInt8 → Bool) : List UInt8 → Option (List (List UInt8))
  | [] => none
  | c :: r => if c = 47 then (if r = [] then some [] else partsR fits r) else none
theorem down_cons (fits : Nat → List UInt8 → Bool) (c : UInt8) (r : List UInt8) : downR fits (c :: r) = if c = 47 then (if r = [] then some [] else partsR fits r) else none := rfl
theorem walk_down (loose : Bool) (l : List UInt8) : walkR loose l = if l.length ≤ mostB loose + 1 then downR (fitB loose) l else none := by
  cases l with
  | nil => simp [walkR, downR]
  | cons c r =>
    rw [walk_cons, List.length_cons, down_cons]
    by_cases h : r.length ≤ mostB loose
    · rw [if_pos (show r.length + 1 ≤ mostB loose + 1 by omega)]
      by_cases hc : c = 47
      · rw [if_pos ⟨hc, h⟩, if_pos hc]
      · rw [if_neg (fun hh => hc hh.1), if_neg hc]
    · rw [if_neg (show ¬ r.length + 1 ≤ mostB loose + 1 by omega), if_neg (fun hh => h hh.2)]
theorem pre47 (c : UInt8) (r : List UInt8) : Lib.hasPrefix (c :: r) [47] = (c == 47) := by
  have e : Lib.hasPrefix (c :: r) [47] = ((47 == c) && List.isPrefixOf [] r) := rfl
  rw [e, show List.isPrefixOf [] r = true by cases r <;> rfl, Bool.and_true]
  by_cases h : c = 47
  · rw [h]
  · rw [beq_eq_false_iff_ne.2 h, beq_eq_false_iff_ne.2 (fun e => h e.symm)]
theorem pre_nil : Lib.hasPrefix [] [47] = false := rfl
theorem trim47 (r : List UInt8) : Lib.trimPrefix (47 :: r) [47] = r := by simp [Lib.trimPrefix, Lib.hasPrefix]

theorem nil_or (s : ByteArray) : bs s = [] ∨ ∃ c r, bs s = c :: r := by
  cases bs s with
  | nil => exact .inl rfl
  | cons c r => exact .inr ⟨c, r, rfl⟩

set_option maxHeartbeats 2000000 in
set_option maxRecDepth 10000 in
theorem down_any (K : Nat) (fits : Nat → List UInt8 → Bool) (s : ByteArray) (w : World) (hs : s.size ≤ 900000)
    (he : ∀ args w, (callFunc K args).run Tryd.prog w = .ok (.enter K args) w)
    (hf : ∀ (n : Nat) (X : ByteArray) (W : World), X.size ≤ 1000000 → Below w.heap.size w W → Calls Tryd.prog K #[.int .i64 (n : Int), .string X] W fun e W' => e = .returned (.bool (fits n (bs X))) ∧ Below W.heap.size W W') :
    Calls Tryd.prog 26 #[.string s, .func (.func K) #[] #[]] w fun e w' => Names w w' e (downR fits (bs s)) := by
  have H1 := hide (cutPrefix_any s w)
  have hl := bs_len s
  by_cases hpre : ∃ r, bs s = 47 :: r
  · obtain ⟨r, hr⟩ := hpre
    rw [hr] at H1 hl ⊢
    rw [pre47, trim47] at H1
    rw [List.length_cons] at hl
    rw [down_cons, if_pos rfl]
    by_cases hr0 : r = []
    · subst hr0
      rw [if_pos rfl]
      have k1 : (tx []).toList.isEmpty = true := by rw [toList_bs, bs_tx]; rfl
      clear hr he hf
      go_enter Tryd.func26, Tryd.ntmps26
      go_wp2_with (go_at_call 39; refine (unhide H1).mono ?_; rintro e w' ⟨rfl, rfl⟩)
      go_ret2
      exact Names.root (Below.refl _ _)
    · rw [if_neg hr0]
      have k1 : (tx r).toList.isEmpty = false := full_of (by rw [bs_tx]; exact hr0)
      have H2 := hide (parts_any K fits (tx r) w (by rw [tx_size]; omega) he hf)
      rw [bs_tx] at H2
      clear hr hr0 he hf
      generalize tx r = X at *
      go_enter Tryd.func26, Tryd.ntmps26
      go_wp2_with (first
        | (go_at_call 39; refine (unhide H1).mono ?_; rintro e w' ⟨rfl, rfl⟩)
        | (go_at_call 31; refine (unhide H2).mono ?_; rintro e w2 ⟨⟨a, cap, rfl, hl2⟩, hb⟩; have hl2 := hide hl2; have hb := hide hb))
      go_ret2
      exact ⟨⟨a, cap, rfl, unhide hl2⟩, unhide hb⟩
  · have hno : Lib.hasPrefix (bs s) [47] = false := by
      rcases nil_or s with h | ⟨c, r, h⟩
      · rw [h]
        rfl
      · rw [h, pre47]
        exact beq_eq_false_iff_ne.2 (fun hc => hpre ⟨r, by rw [h, hc]⟩)
    have hd : downR fits (bs s) = none := by
      rcases nil_or s with h | ⟨c, r, h⟩
      · rw [h]
        rfl
      · rw [h, down_cons]
        rw [if_neg (fun hc => hpre ⟨r, by rw [h, hc]⟩)]
    rw [hd]
    rw [hno] at H1
    clear hd hno hpre he hf
    generalize tx (Lib.trimPrefix (bs s) [47]) = X at *
    go_enter Tryd.func26, Tryd.ntmps26
    go_wp2_with (go_at_call 39; refine (unhide H1).mono ?_; rintro e w' ⟨rfl, rfl⟩)
    go_ret2
    exact Names.no (Below.refl _ _)

theorem enter27 : ∀ args w, (callFunc 27 args).run Tryd.prog w = .ok (.enter 27 args) w := enters_of Tryd.func27 (by kernel_rfl) rfl
theorem enter29 : ∀ args w, (callFunc 29 args).run Tryd.prog w = .ok (.enter 29 args) w := enters_of Tryd.func29 (by kernel_rfl) rfl
theorem enter32 : ∀ args w, (callFunc 32 args).run Tryd.prog w = .ok (.enter 32 args) w := enters_of Tryd.func32 (by kernel_rfl) rfl

set_option maxHeartbeats 1000000 in
theorem split_any (s : ByteArray) (w : World) (hs : s.size ≤ 900000) :
    Calls Tryd.prog 9 #[.string s] w fun e w' => Names w w' e (walkR false (bs s)) := by
  have H := hide (down_any 27 (fitB false) s w hs enter27 (fun n X W hX _ => place_any n X W hX))
  rw [walk_down, bs_len]
  by_cases h : s.size ≤ mostB false + 1
  · rw [if_pos h]
    have g : ¬ (1023 : Int) < (s.size : Int) := by simp [mostB] at h; omega
    clear h
    go_enter Tryd.func9, Tryd.ntmps9
    go_wp2_with (go_at_call 26; refine (unhide H).mono ?_; rintro e w2 ⟨⟨a, cap, rfl, hl2⟩, hb⟩; have hl2 := hide hl2; have hb := hide hb)
    go_ret2
    exact ⟨⟨a, cap, rfl, unhide hl2⟩, unhide hb⟩
  · rw [if_neg h]
    have g : (1023 : Int) < (s.size : Int) := by simp [mostB] at h; omega
    clear h
    go_enter Tryd.func9, Tryd.ntmps9
    go_wp2
    go_ret2
    exact Names.no (Below.refl _ _)
set_option maxHeartbeats 1000000 in
theorem loose_any (s : ByteArray) (w : World) (hs : s.size ≤ 900000) (hT : Tb w) (hE : Er w) :
    Calls Tryd.prog 11 #[.string s] w fun e w' => Names w w' e (walkR true (bs s)) := by
  have H := hide (down_any 29 (fitB true) s w hs enter29 (fun n X W hX hW => loosePlace_any n X W hX (hT.below hW) (hE.below hW)))
  clear hT hE
  rw [walk_down, bs_len]
  by_cases h : s.size ≤ mostB true + 1
  · rw [if_pos h]
    have g : ¬ (1037 : Int) < (s.size : Int) := by simp [mostB] at h; omega
    clear h
    go_enter Tryd.func11, Tryd.ntmps11
    go_wp2_with (go_at_call 26; refine (unhide H).mono ?_; rintro e w2 ⟨⟨a, cap, rfl, hl2⟩, hb⟩; have hl2 := hide hl2; have hb := hide hb)
    go_ret2
    exact ⟨⟨a, cap, rfl, unhide hl2⟩, unhide hb⟩
  · rw [if_neg h]
    have g : (1037 : Int) < (s.size : Int) := by simp [mostB] at h; omega
    clear h
    go_enter Tryd.func11, Tryd.ntmps11
    go_wp2
    go_ret2
    exact Names.no (Below.refl _ _)

set_option maxHeartbeats 2000000 in
set_option maxRecDepth 10000 in
theorem lead_any (s : ByteArray) (w : World) (hs : s.size ≤ 900000) :
    Calls Tryd.prog 13 #[.string s] w fun e w' => Leads w w' e (leadR (bs s)) := by
  have H1 := hide (target_any s w (by omega))
  have H2 := hide (hasPrefix_any s w)
  cases ht : targB (bs s) with
  | false =>
    rw [lead_no ht]
    rw [ht] at H1
    clear ht
    go_enter Tryd.func13, Tryd.ntmps13
    go_wp2_with (go_at_call 17; refine (unhide H1).mono ?_; rintro e w' ⟨rfl, rfl⟩)
    go_ret3
    exact Leads.no (Below.refl _ _)
  | true =>
    obtain ⟨hz, hz2⟩ := targ_pos ht
    rw [ht] at H1
    by_cases hpre : ∃ r, bs s = 47 :: r
    · obtain ⟨r, hr⟩ := hpre
      have hpf : Lib.hasPrefix (bs s) [47] = true := by rw [hr, pre47]; rfl
      rw [hpf] at H2
      rw [lead_root ht hr]
      have H3 := hide (down_any 27 (fitB false) s w hs enter27 (fun n X W hX _ => place_any n X W hX))
      have hw : downR (fitB false) (bs s) = walkR false (bs s) := by rw [walk_down, if_pos (by rw [bs_len]; unfold mostB; simp; omega)]
      rw [hw] at H3
      clear hw hr hpf ht
      generalize walkR false (bs s) = R at *
      cases R with
      | none =>
        go_enter Tryd.func13, Tryd.ntmps13
        go_wp2_with (first
          | (go_at_call 17; refine (unhide H1).mono ?_; rintro e w' ⟨rfl, rfl⟩)
          | (go_at_call 30; refine (unhide H2).mono ?_; rintro e w' ⟨rfl, rfl⟩)
          | (go_at_call 26; refine (unhide H3).mono ?_; intro e w2 h2; obtain ⟨a, cap, rfl, hb⟩ := h2.of_none; clear h2; have hb := hide hb))
        go_ret3
        exact ⟨⟨a, cap, rfl, Ls.nil _ _⟩, unhide hb⟩
      | some l =>
        go_enter Tryd.func13, Tryd.ntmps13
        go_wp2_with (first
          | (go_at_call 17; refine (unhide H1).mono ?_; rintro e w' ⟨rfl, rfl⟩)
          | (go_at_call 30; refine (unhide H2).mono ?_; rintro e w' ⟨rfl, rfl⟩)
          | (go_at_call 26; refine (unhide H3).mono ?_; intro e w2 h2; obtain ⟨a, cap, rfl, hl, hb⟩ := h2.of_some; clear h2; have hl := hide hl; have hb := hide hb))
        go_ret3
        exact ⟨⟨a, cap, rfl, unhide hl⟩, unhide hb⟩
    · have hpf : Lib.hasPrefix (bs s) [47] = false ∧ (bs s).head? ≠ some 47 := by
        rcases nil_or s with h | ⟨c, r, h⟩
        · rw [h]
          exact ⟨rfl, by simp⟩
        · rw [h, pre47]
          have hc : c ≠ 47 := fun hc => hpre ⟨r, by rw [h, hc]⟩
          exact ⟨beq_eq_false_iff_ne.2 hc, by simp [hc]⟩
      rw [hpf.1] at H2
      rw [lead_step ht hpf.2]
      have H3 := hide (parts_any 32 stepB s w hs enter32 (fun n X W hX _ => step_any n X W hX))
      clear hpf ht hpre
      generalize partsR stepB (bs s) = R at *
      cases R with
      | none =>
        go_enter Tryd.func13, Tryd.ntmps13
        go_wp2_with (first
          | (go_at_call 17; refine (unhide H1).mono ?_; rintro e w' ⟨rfl, rfl⟩)
          | (go_at_call 30; refine (unhide H2).mono ?_; rintro e w' ⟨rfl, rfl⟩)
          | (go_at_call 31; refine (unhide H3).mono ?_; intro e w2 h2; obtain ⟨a, cap, rfl, hb⟩ := h2.of_none; clear h2; have hb := hide hb))
        go_ret3
        exact ⟨⟨a, cap, rfl, Ls.nil _ _⟩, unhide hb⟩
      | some l =>
        go_enter Tryd.func13, Tryd.ntmps13
        go_wp2_with (first
          | (go_at_call 17; refine (unhide H1).mono ?_; rintro e w' ⟨rfl, rfl⟩)
          | (go_at_call 30; refine (unhide H2).mono ?_; rintro e w' ⟨rfl, rfl⟩)
          | (go_at_call 31; refine (unhide H3).mono ?_; intro e w2 h2; obtain ⟨a, cap, rfl, hl, hb⟩ := h2.of_some; clear h2; have hl := hide hl; have hb := hide hb))
        go_ret3
        exact ⟨⟨a, cap, rfl, unhide hl⟩, unhide hb⟩
end Go.Proofs.YtoogcejbhehoaaaDoor
