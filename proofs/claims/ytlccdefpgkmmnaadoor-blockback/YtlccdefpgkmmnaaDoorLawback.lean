/- The walk of the law BlockBack. -/
import Derived.Test.YtlccdefpgkmmnaaDoorAwake
namespace Go.Proofs.YtlccdefpgkmmnaaDoor
open Go.ChangeShapes Go.WideShapes Go.ChangeAt Go.RowKit

theorem Box.all {w : World} {x y z : Value} {w1 : World} (h : Box w x y z w1) : (∀ o, Below w.heap.size w (w1.alloc o) ∧ (∀ {w'}, Below (w1.alloc o).heap.size (w1.alloc o) w' → Below w.heap.size w w')) ∧ (∀ o, (w1.alloc o).cell? ⟨w.heap.size, 0, none⟩ = some x) ∧ (∀ o, (w1.alloc o).cell? ⟨w.heap.size, 1, none⟩ = some y) ∧ (∀ o, (w1.alloc o).cell? ⟨w.heap.size, 2, none⟩ = some z) :=
  ⟨fun o => ⟨(h.alloc o).1, fun hb => below_then (h.alloc o).1 hb⟩, fun o => (h.alloc o).2.1, fun o => (h.alloc o).2.2.1, fun o => (h.alloc o).2.2.2⟩

set_option maxRecDepth 10000 in
set_option maxHeartbeats 1000000 in
theorem back_out (K G : Int) (P S : ByteArray) (w : World) (hT : Tab w) (hP : P.size ≤ 9223372036854775807) (hS : S.size ≤ 9223372036854775807) (h : 16384 < P.size ∨ 8192 < S.size) :
    Calls Tryd.prog 5 #[.agg #[.int .i64 K, .int .i64 G, .string P], .string S] w fun e w' => e = .returned (.bool true) ∧ Below w.heap.size w w' := by
  have hX := Box.new w (.int .i64 K) (.int .i64 G) (.string P)
  have H8 := hide (awake_any _ (hT.below hX.1))
  have HX := hide hX
  clear hT hX
  by_cases h1 : 16384 < P.size
  · clear h
    go_enter Tryd.func5, Tryd.ntmps5
    go_wp2_with (go_at_call 8; refine (unhide H8).mono ?_; rintro e w1 ⟨rfl, hb1⟩; have X1 := hide ((unhide HX).then hb1); obtain ⟨b1, c0, c1, c2⟩ := unhide X1)
    go_ret
    exact ⟨rfl, b1⟩
  · have h2 : 8192 < S.size := by omega
    clear h
    go_enter Tryd.func5, Tryd.ntmps5
    go_wp2_with (go_at_call 8; refine (unhide H8).mono ?_; rintro e w1 ⟨rfl, hb1⟩; have X1 := hide ((unhide HX).then hb1); obtain ⟨b1, c0, c1, c2⟩ := unhide X1)
    go_ret
    exact ⟨rfl, b1⟩

set_option maxRecDepth 10000 in
set_option maxHeartbeats 2000000 in
theorem back_ok_ok (K G : Int) (P S : ByteArray) (w : World) (hT : Tab w) (hP : P.size ≤ 16384) (hS : S.size ≤ 8192) (t : ByteArray) (w1 : wrapR K G P = (t, 0)) (o1 : openR t = (K, G, P, 0)) (K2 G2 : Int) (P2 : ByteArray) (o2 : openR S = (K2, G2, P2, 0)) (w2 : wrapR K2 G2 P2 = (S, 0)) :
    Calls Tryd.prog 5 #[.agg #[.int .i64 K, .int .i64 G, .string P], .string S] w fun e w' => e = .returned (.bool true) ∧ Below w.heap.size w w' := by
  have hX := Box.new w (.int .i64 K) (.int .i64 G) (.string P)
  have h1 := fun w' (h' : Tab w') => wrap_any K G P w' h'
  rw [w1] at h1
  have h2 := fun w' (h' : Tab w') => open_any t w' h'
  rw [o1] at h2
  have h3 := fun w' (h' : Tab w') => open_any S w' h'
  rw [o2] at h3
  have h4 := fun w' (h' : Tab w') => wrap_any K2 G2 P2 w' h'
  rw [w2] at h4
  have H8 := hide (awake_any _ (hT.below hX.1))
  have H1 := hide h1
  have H2 := hide h2
  have H3 := hide h3
  have H4 := hide h4
  have HT := hide hT
  have HX := hide hX
  clear h1 h2 h3 h4 hT hX w1 w2 o1 o2
  go_enter Tryd.func5, Tryd.ntmps5
  go_wp2_with (first
    | (go_at_call 8; refine (unhide H8).mono ?_; rintro e w1 ⟨rfl, hb1⟩; have X1 := hide ((unhide HX).then hb1); obtain ⟨b1, c0, c1, c2⟩ := unhide X1)
    | (go_at_call 9; refine (unhide H1 _ ((unhide HT).below b1)).mono ?_; rintro e w2 ⟨rfl, hb2⟩; have X2 := hide ((unhide X1).then hb2); clear b1 c0 c1 c2 X1 hb2; obtain ⟨b2, _, _, _⟩ := unhide X2)
    | (go_at_call 11; refine (unhide H2 _ ((unhide HT).below b2)).mono ?_; unfold opened; rintro e w3 ⟨rfl, hb3⟩; have X3 := hide ((unhide X2).then hb3); clear b2 X2 hb3; obtain ⟨b3, a0, a1, a2⟩ := (unhide X3).all)
    | (go_at_call 11; refine (unhide H3 _ ((unhide HT).below (b3 _).1)).mono ?_; unfold opened; rintro e w4 ⟨rfl, hb4⟩; have b4 := (b3 _).2 hb4; clear b3 a0 a1 a2 X3)
    | (go_at_call 9; refine (unhide H4 _ ((unhide HT).below (b4.alloc b4.size _))).mono ?_; rintro e w5 ⟨rfl, hb5⟩))
  go_ret
  exact ⟨rfl, below_then (b4.alloc b4.size _) hb5⟩

set_option maxRecDepth 10000 in
set_option maxHeartbeats 2000000 in
theorem back_ok_err (K G : Int) (P S : ByteArray) (w : World) (hT : Tab w) (hP : P.size ≤ 16384) (hS : S.size ≤ 8192) (t : ByteArray) (w1 : wrapR K G P = (t, 0)) (o1 : openR t = (K, G, P, 0)) (F : Nat) (o2 : openR S = (0, 0, ⟨#[]⟩, F)) (hF : F ≠ 0) (u : ByteArray) (g : Nat) (w2 : wrapR 0 0 ⟨#[]⟩ = (u, g)) :
    Calls Tryd.prog 5 #[.agg #[.int .i64 K, .int .i64 G, .string P], .string S] w fun e w' => e = .returned (.bool true) ∧ Below w.heap.size w w' := by
  have hX := Box.new w (.int .i64 K) (.int .i64 G) (.string P)
  have h1 := fun w' (h' : Tab w') => wrap_any K G P w' h'
  rw [w1] at h1
  have h2 := fun w' (h' : Tab w') => open_any t w' h'
  rw [o1] at h2
  have h3 := fun w' (h' : Tab w') => open_any S w' h'
  rw [o2] at h3
  have h4 := fun w' (h' : Tab w') => wrap_any 0 0 ⟨#[]⟩ w' h'
  rw [w2] at h4
  have H8 := hide (awake_any _ (hT.below hX.1))
  have H1 := hide h1
  have H2 := hide h2
  have H3 := hide h3
  have H4 := hide h4
  have HT := hide hT
  have HX := hide hX
  clear h1 h2 h3 h4 hT hX w1 w2 o1 o2
  have f1 : ((F : Int) == 0) = false := beq_eq_false_iff_ne.2 (by omega)
  have f2 : ((F : Int) != 0) = true := bne_iff_ne.2 (by omega)
  clear hF
  go_enter Tryd.func5, Tryd.ntmps5
  go_wp2_with (first
    | (go_at_call 8; refine (unhide H8).mono ?_; rintro e w1 ⟨rfl, hb1⟩; have X1 := hide ((unhide HX).then hb1); obtain ⟨b1, c0, c1, c2⟩ := unhide X1)
    | (go_at_call 9; refine (unhide H1 _ ((unhide HT).below b1)).mono ?_; rintro e w2 ⟨rfl, hb2⟩; have X2 := hide ((unhide X1).then hb2); clear b1 c0 c1 c2 X1 hb2; obtain ⟨b2, _, _, _⟩ := unhide X2)
    | (go_at_call 11; refine (unhide H2 _ ((unhide HT).below b2)).mono ?_; unfold opened; rintro e w3 ⟨rfl, hb3⟩; have X3 := hide ((unhide X2).then hb3); clear b2 X2 hb3; obtain ⟨b3, a0, a1, a2⟩ := (unhide X3).all)
    | (go_at_call 11; refine (unhide H3 _ ((unhide HT).below (b3 _).1)).mono ?_; unfold opened; rintro e w4 ⟨rfl, hb4⟩; have b4 := (b3 _).2 hb4; clear b3 a0 a1 a2 X3)
    | (go_at_call 9; refine (unhide H4 _ ((unhide HT).below (b4.alloc b4.size _))).mono ?_; rintro e w5 ⟨rfl, hb5⟩))
  go_ret
  exact ⟨rfl, below_then (b4.alloc b4.size _) hb5⟩

set_option maxRecDepth 10000 in
set_option maxHeartbeats 2000000 in
theorem back_err_ok (K G : Int) (P S : ByteArray) (w : World) (hT : Tab w) (hP : P.size ≤ 16384) (hS : S.size ≤ 8192) (E : Nat) (w1 : wrapR K G P = (⟨#[]⟩, E)) (hE : E ≠ 0) (o1 : openR ⟨#[]⟩ = (0, 0, ⟨#[]⟩, 32)) (K2 G2 : Int) (P2 : ByteArray) (o2 : openR S = (K2, G2, P2, 0)) (w2 : wrapR K2 G2 P2 = (S, 0)) :
    Calls Tryd.prog 5 #[.agg #[.int .i64 K, .int .i64 G, .string P], .string S] w fun e w' => e = .returned (.bool true) ∧ Below w.heap.size w w' := by
  have hX := Box.new w (.int .i64 K) (.int .i64 G) (.string P)
  have h1 := fun w' (h' : Tab w') => wrap_any K G P w' h'
  rw [w1] at h1
  have h2 := fun w' (h' : Tab w') => open_any ⟨#[]⟩ w' h'
  rw [o1] at h2
  have h3 := fun w' (h' : Tab w') => open_any S w' h'
  rw [o2] at h3
  have h4 := fun w' (h' : Tab w') => wrap_any K2 G2 P2 w' h'
  rw [w2] at h4
  have H8 := hide (awake_any _ (hT.below hX.1))
  have H1 := hide h1
  have H2 := hide h2
  have H3 := hide h3
  have H4 := hide h4
  have HT := hide hT
  have HX := hide hX
  clear h1 h2 h3 h4 hT hX w1 w2 o1 o2
  have e1 : ((E : Int) == 0) = false := beq_eq_false_iff_ne.2 (by omega)
  have e2 : ((E : Int) != 0) = true := bne_iff_ne.2 (by omega)
  clear hE
  go_enter Tryd.func5, Tryd.ntmps5
  go_wp2_with (first
    | (go_at_call 8; refine (unhide H8).mono ?_; rintro e w1 ⟨rfl, hb1⟩; have X1 := hide ((unhide HX).then hb1); obtain ⟨b1, c0, c1, c2⟩ := unhide X1)
    | (go_at_call 9; refine (unhide H1 _ ((unhide HT).below b1)).mono ?_; rintro e w2 ⟨rfl, hb2⟩; have X2 := hide ((unhide X1).then hb2); clear b1 c0 c1 c2 X1 hb2; obtain ⟨b2, _, _, _⟩ := unhide X2)
    | (go_at_call 11; refine (unhide H2 _ ((unhide HT).below b2)).mono ?_; unfold opened; rintro e w3 ⟨rfl, hb3⟩; have X3 := hide ((unhide X2).then hb3); clear b2 X2 hb3; obtain ⟨b3, a0, a1, a2⟩ := (unhide X3).all)
    | (go_at_call 11; refine (unhide H3 _ ((unhide HT).below (b3 _).1)).mono ?_; unfold opened; rintro e w4 ⟨rfl, hb4⟩; have b4 := (b3 _).2 hb4; clear b3 a0 a1 a2 X3)
    | (go_at_call 9; refine (unhide H4 _ ((unhide HT).below (b4.alloc b4.size _))).mono ?_; rintro e w5 ⟨rfl, hb5⟩))
  go_ret
  exact ⟨rfl, below_then (b4.alloc b4.size _) hb5⟩

set_option maxRecDepth 10000 in
set_option maxHeartbeats 2000000 in
theorem back_err_err (K G : Int) (P S : ByteArray) (w : World) (hT : Tab w) (hP : P.size ≤ 16384) (hS : S.size ≤ 8192) (E : Nat) (w1 : wrapR K G P = (⟨#[]⟩, E)) (hE : E ≠ 0) (o1 : openR ⟨#[]⟩ = (0, 0, ⟨#[]⟩, 32)) (F : Nat) (o2 : openR S = (0, 0, ⟨#[]⟩, F)) (hF : F ≠ 0) (u : ByteArray) (g : Nat) (w2 : wrapR 0 0 ⟨#[]⟩ = (u, g)) :
    Calls Tryd.prog 5 #[.agg #[.int .i64 K, .int .i64 G, .string P], .string S] w fun e w' => e = .returned (.bool true) ∧ Below w.heap.size w w' := by
  have hX := Box.new w (.int .i64 K) (.int .i64 G) (.string P)
  have h1 := fun w' (h' : Tab w') => wrap_any K G P w' h'
  rw [w1] at h1
  have h2 := fun w' (h' : Tab w') => open_any ⟨#[]⟩ w' h'
  rw [o1] at h2
  have h3 := fun w' (h' : Tab w') => open_any S w' h'
  rw [o2] at h3
  have h4 := fun w' (h' : Tab w') => wrap_any 0 0 ⟨#[]⟩ w' h'
  rw [w2] at h4
  have H8 := hide (awake_any _ (hT.below hX.1))
  have H1 := hide h1
  have H2 := hide h2
  have H3 := hide h3
  have H4 := hide h4
  have HT := hide hT
  have HX := hide hX
  clear h1 h2 h3 h4 hT hX w1 w2 o1 o2
  have e1 : ((E : Int) == 0) = false := beq_eq_false_iff_ne.2 (by omega)
  have e2 : ((E : Int) != 0) = true := bne_iff_ne.2 (by omega)
  clear hE
  have f1 : ((F : Int) == 0) = false := beq_eq_false_iff_ne.2 (by omega)
  have f2 : ((F : Int) != 0) = true := bne_iff_ne.2 (by omega)
  clear hF
  go_enter Tryd.func5, Tryd.ntmps5
  go_wp2_with (first
    | (go_at_call 8; refine (unhide H8).mono ?_; rintro e w1 ⟨rfl, hb1⟩; have X1 := hide ((unhide HX).then hb1); obtain ⟨b1, c0, c1, c2⟩ := unhide X1)
    | (go_at_call 9; refine (unhide H1 _ ((unhide HT).below b1)).mono ?_; rintro e w2 ⟨rfl, hb2⟩; have X2 := hide ((unhide X1).then hb2); clear b1 c0 c1 c2 X1 hb2; obtain ⟨b2, _, _, _⟩ := unhide X2)
    | (go_at_call 11; refine (unhide H2 _ ((unhide HT).below b2)).mono ?_; unfold opened; rintro e w3 ⟨rfl, hb3⟩; have X3 := hide ((unhide X2).then hb3); clear b2 X2 hb3; obtain ⟨b3, a0, a1, a2⟩ := (unhide X3).all)
    | (go_at_call 11; refine (unhide H3 _ ((unhide HT).below (b3 _).1)).mono ?_; unfold opened; rintro e w4 ⟨rfl, hb4⟩; have b4 := (b3 _).2 hb4; clear b3 a0 a1 a2 X3)
    | (go_at_call 9; refine (unhide H4 _ ((unhide HT).below (b4.alloc b4.size _))).mono ?_; rintro e w5 ⟨rfl, hb5⟩))
  go_ret
  exact ⟨rfl, below_then (b4.alloc b4.size _) hb5⟩

theorem open_none : openR ⟨#[]⟩ = (0, 0, ⟨#[]⟩, 32) := by
  unfold openR
  rw [if_pos (by decide)]
theorem back_any (K G : Int) (P S : ByteArray) (w : World) (hT : Tab w) (hP : P.size ≤ 9223372036854775807) (hS : S.size ≤ 9223372036854775807) :
    Calls Tryd.prog 5 #[.agg #[.int .i64 K, .int .i64 G, .string P], .string S] w fun e w' => e = .returned (.bool true) ∧ Below w.heap.size w w' := by
  by_cases h : 16384 < P.size ∨ 8192 < S.size
  · exact back_out K G P S w hT hP hS h
  · have hP' : P.size ≤ 16384 := by omega
    have hS' : S.size ≤ 8192 := by omega
    rcases wrapR_cases K G P with ⟨k, g, rfl, rfl, hk, hg, hp, hw⟩ | ⟨e, he, hw⟩
    · have ho := open_wrap hk hg hp
      rcases openR_cases S with ⟨h1, h2, h3⟩ | ⟨f, hf, hr⟩
      · have hb := wrap_open h1 h2 h3
        have hr := openR_ok h1 h2 h3
        rw [hr] at hb
        exact back_ok_ok _ _ P S w hT hP' hS' _ hw ho _ _ _ hr hb
      · exact back_ok_err _ _ P S w hT hP' hS' _ hw ho f hr (by omega) _ _ rfl
    · rcases openR_cases S with ⟨h1, h2, h3⟩ | ⟨f, hf, hr⟩
      · have hb := wrap_open h1 h2 h3
        have hr := openR_ok h1 h2 h3
        rw [hr] at hb
        exact back_err_ok _ _ P S w hT hP' hS' e hw (by omega) open_none _ _ _ hr hb
      · exact back_err_err _ _ P S w hT hP' hS' e hw (by omega) open_none f hr (by omega) _ _ rfl
end Go.Proofs.YtlccdefpgkmmnaaDoor
