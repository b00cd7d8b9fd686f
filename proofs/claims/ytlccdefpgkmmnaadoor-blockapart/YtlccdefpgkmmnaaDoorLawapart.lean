/- The walk of the law BlockApart. -/
import Derived.Test.YtlccdefpgkmmnaaDoorAwake
namespace Go.Proofs.YtlccdefpgkmmnaaDoor
open Go.ChangeShapes Go.WideShapes Go.ChangeAt Go.RowKit

/-- two blocks in their boxes -/
def Box2 (w : World) (x y z x' y' z' : Value) (w' : World) : Prop := Below w.heap.size w w' ∧ w'.cell? ⟨w.heap.size, 0, none⟩ = some x ∧ w'.cell? ⟨w.heap.size, 1, none⟩ = some y ∧ w'.cell? ⟨w.heap.size, 2, none⟩ = some z ∧
  w'.cell? ⟨w.heap.size + 1, 0, none⟩ = some x' ∧ w'.cell? ⟨w.heap.size + 1, 1, none⟩ = some y' ∧ w'.cell? ⟨w.heap.size + 1, 2, none⟩ = some z'
theorem Box2.new (w : World) (x y z x' y' z' : Value) : Box2 w x y z x' y' z' ((w.alloc (.cells #[x, y, z] 23)).alloc (.cells #[x', y', z'] 23)) :=
  ⟨((Below.refl _ _).alloc (Nat.le_refl _) _).alloc (by simp) _, by simp, by simp, by simp, by simp, by simp, by simp⟩
theorem Box2.then {w : World} {x y z x' y' z' : Value} {w1 w2 : World} (h : Box2 w x y z x' y' z' w1) (hb : Below w1.heap.size w1 w2) : Box2 w x y z x' y' z' w2 := by
  obtain ⟨h1, h2, h3, h4, h5, h6, h7⟩ := h
  exact ⟨below_then h1 hb, (hb.cell (World.block_lt_of_cell? w1 _ h2)).trans h2, (hb.cell (World.block_lt_of_cell? w1 _ h3)).trans h3, (hb.cell (World.block_lt_of_cell? w1 _ h4)).trans h4,
    (hb.cell (World.block_lt_of_cell? w1 _ h5)).trans h5, (hb.cell (World.block_lt_of_cell? w1 _ h6)).trans h6, (hb.cell (World.block_lt_of_cell? w1 _ h7)).trans h7⟩

set_option maxRecDepth 10000 in
set_option maxHeartbeats 2000000 in
theorem apart_e (K G : Int) (P : ByteArray) (L H : Int) (Q : ByteArray) (w : World) (hT : Tab w) (s t : ByteArray) (e f : Nat) (w1 : wrapR K G P = (s, e)) (w2 : wrapR L H Q = (t, f)) (he : e ≠ 0) :
    Calls Tryd.prog 7 #[.agg #[.int .i64 K, .int .i64 G, .string P], .agg #[.int .i64 L, .int .i64 H, .string Q]] w fun e w' => e = .returned (.bool true) ∧ Below w.heap.size w w' := by
  have hX := Box2.new w (.int .i64 K) (.int .i64 G) (.string P) (.int .i64 L) (.int .i64 H) (.string Q)
  have h1 := fun w' (h' : Tab w') => wrap_any K G P w' h'
  rw [w1] at h1
  have h2 := fun w' (h' : Tab w') => wrap_any L H Q w' h'
  rw [w2] at h2
  have H8 := hide (awake_any _ (hT.below hX.1))
  have H1 := hide h1
  have H2 := hide h2
  have HT := hide hT
  have HX := hide hX
  clear h1 h2 hT hX w1 w2
  have e1 : ((e : Int) == 0) = false := beq_eq_false_iff_ne.2 (by omega)
  have e2 : ((e : Int) != 0) = true := bne_iff_ne.2 (by omega)
  clear he
  go_enter Tryd.func7, Tryd.ntmps7
  go_wp2_with (first
    | (go_at_call 8; refine (unhide H8).mono ?_; rintro e w1 ⟨rfl, hb1⟩; have X1 := hide ((unhide HX).then hb1); obtain ⟨b1, c0, c1, c2, d0, d1, d2⟩ := unhide X1)
    | (go_at_call 9; refine (unhide H1 _ ((unhide HT).below b1)).mono ?_; rintro e w2 ⟨rfl, hb2⟩; have X2 := hide ((unhide X1).then hb2); clear b1 c0 c1 c2 d0 d1 d2 X1 hb2; obtain ⟨b2, c0, c1, c2, d0, d1, d2⟩ := unhide X2)
    | (go_at_call 9; refine (unhide H2 _ ((unhide HT).below b2)).mono ?_; rintro e w3 ⟨rfl, hb3⟩; have X3 := hide ((unhide X2).then hb3); clear b2 c0 c1 c2 d0 d1 d2 X2 hb3; obtain ⟨b3, c0, c1, c2, d0, d1, d2⟩ := unhide X3))
  go_ret
  exact ⟨rfl, b3⟩

set_option maxRecDepth 10000 in
set_option maxHeartbeats 2000000 in
theorem apart_f (K G : Int) (P : ByteArray) (L H : Int) (Q : ByteArray) (w : World) (hT : Tab w) (s t : ByteArray) (e f : Nat) (w1 : wrapR K G P = (s, e)) (w2 : wrapR L H Q = (t, f)) (he : e = 0) (hf : f ≠ 0) :
    Calls Tryd.prog 7 #[.agg #[.int .i64 K, .int .i64 G, .string P], .agg #[.int .i64 L, .int .i64 H, .string Q]] w fun e w' => e = .returned (.bool true) ∧ Below w.heap.size w w' := by
  have hX := Box2.new w (.int .i64 K) (.int .i64 G) (.string P) (.int .i64 L) (.int .i64 H) (.string Q)
  have h1 := fun w' (h' : Tab w') => wrap_any K G P w' h'
  rw [w1] at h1
  have h2 := fun w' (h' : Tab w') => wrap_any L H Q w' h'
  rw [w2] at h2
  have H8 := hide (awake_any _ (hT.below hX.1))
  have H1 := hide h1
  have H2 := hide h2
  have HT := hide hT
  have HX := hide hX
  clear h1 h2 hT hX w1 w2
  subst he
  have e1 : ((f : Int) == 0) = false := beq_eq_false_iff_ne.2 (by omega)
  have e2 : ((f : Int) != 0) = true := bne_iff_ne.2 (by omega)
  clear hf
  go_enter Tryd.func7, Tryd.ntmps7
  go_wp2_with (first
    | (go_at_call 8; refine (unhide H8).mono ?_; rintro e w1 ⟨rfl, hb1⟩; have X1 := hide ((unhide HX).then hb1); obtain ⟨b1, c0, c1, c2, d0, d1, d2⟩ := unhide X1)
    | (go_at_call 9; refine (unhide H1 _ ((unhide HT).below b1)).mono ?_; rintro e w2 ⟨rfl, hb2⟩; have X2 := hide ((unhide X1).then hb2); clear b1 c0 c1 c2 d0 d1 d2 X1 hb2; obtain ⟨b2, c0, c1, c2, d0, d1, d2⟩ := unhide X2)
    | (go_at_call 9; refine (unhide H2 _ ((unhide HT).below b2)).mono ?_; rintro e w3 ⟨rfl, hb3⟩; have X3 := hide ((unhide X2).then hb3); clear b2 c0 c1 c2 d0 d1 d2 X2 hb3; obtain ⟨b3, c0, c1, c2, d0, d1, d2⟩ := unhide X3))
  go_ret
  exact ⟨rfl, b3⟩

set_option maxRecDepth 10000 in
set_option maxHeartbeats 2000000 in
theorem apart_k (K G : Int) (P : ByteArray) (L H : Int) (Q : ByteArray) (w : World) (hT : Tab w) (s t : ByteArray) (e f : Nat) (w1 : wrapR K G P = (s, e)) (w2 : wrapR L H Q = (t, f)) (he : e = 0) (hf : f = 0) (hne : ¬ s = t) (hk : ¬ K = L) :
    Calls Tryd.prog 7 #[.agg #[.int .i64 K, .int .i64 G, .string P], .agg #[.int .i64 L, .int .i64 H, .string Q]] w fun e w' => e = .returned (.bool true) ∧ Below w.heap.size w w' := by
  have hX := Box2.new w (.int .i64 K) (.int .i64 G) (.string P) (.int .i64 L) (.int .i64 H) (.string Q)
  have h1 := fun w' (h' : Tab w') => wrap_any K G P w' h'
  rw [w1] at h1
  have h2 := fun w' (h' : Tab w') => wrap_any L H Q w' h'
  rw [w2] at h2
  have H8 := hide (awake_any _ (hT.below hX.1))
  have H1 := hide h1
  have H2 := hide h2
  have HT := hide hT
  have HX := hide hX
  clear h1 h2 hT hX w1 w2
  subst he
  subst hf
  have hq := str_ne hne
  have k1 : (K == L) = false := beq_eq_false_iff_ne.2 hk
  clear hne
  go_enter Tryd.func7, Tryd.ntmps7
  go_wp2_with (first
    | (go_at_call 8; refine (unhide H8).mono ?_; rintro e w1 ⟨rfl, hb1⟩; have X1 := hide ((unhide HX).then hb1); obtain ⟨b1, c0, c1, c2, d0, d1, d2⟩ := unhide X1)
    | (go_at_call 9; refine (unhide H1 _ ((unhide HT).below b1)).mono ?_; rintro e w2 ⟨rfl, hb2⟩; have X2 := hide ((unhide X1).then hb2); clear b1 c0 c1 c2 d0 d1 d2 X1 hb2; obtain ⟨b2, c0, c1, c2, d0, d1, d2⟩ := unhide X2)
    | (go_at_call 9; refine (unhide H2 _ ((unhide HT).below b2)).mono ?_; rintro e w3 ⟨rfl, hb3⟩; have X3 := hide ((unhide X2).then hb3); clear b2 c0 c1 c2 d0 d1 d2 X2 hb3; obtain ⟨b3, c0, c1, c2, d0, d1, d2⟩ := unhide X3))
  go_ret
  exact ⟨rfl, b3⟩

set_option maxRecDepth 10000 in
set_option maxHeartbeats 2000000 in
theorem apart_g (K G : Int) (P : ByteArray) (H : Int) (Q : ByteArray) (w : World) (hT : Tab w) (s t : ByteArray) (e f : Nat) (w1 : wrapR K G P = (s, e)) (w2 : wrapR K H Q = (t, f)) (he : e = 0) (hf : f = 0) (hne : ¬ s = t) (hk : ¬ G = H) :
    Calls Tryd.prog 7 #[.agg #[.int .i64 K, .int .i64 G, .string P], .agg #[.int .i64 K, .int .i64 H, .string Q]] w fun e w' => e = .returned (.bool true) ∧ Below w.heap.size w w' := by
  have hX := Box2.new w (.int .i64 K) (.int .i64 G) (.string P) (.int .i64 K) (.int .i64 H) (.string Q)
  have h1 := fun w' (h' : Tab w') => wrap_any K G P w' h'
  rw [w1] at h1
  have h2 := fun w' (h' : Tab w') => wrap_any K H Q w' h'
  rw [w2] at h2
  have H8 := hide (awake_any _ (hT.below hX.1))
  have H1 := hide h1
  have H2 := hide h2
  have HT := hide hT
  have HX := hide hX
  clear h1 h2 hT hX w1 w2
  subst he
  subst hf
  have hq := str_ne hne
  have k1 : (G == H) = false := beq_eq_false_iff_ne.2 hk
  clear hne
  go_enter Tryd.func7, Tryd.ntmps7
  go_wp2_with (first
    | (go_at_call 8; refine (unhide H8).mono ?_; rintro e w1 ⟨rfl, hb1⟩; have X1 := hide ((unhide HX).then hb1); obtain ⟨b1, c0, c1, c2, d0, d1, d2⟩ := unhide X1)
    | (go_at_call 9; refine (unhide H1 _ ((unhide HT).below b1)).mono ?_; rintro e w2 ⟨rfl, hb2⟩; have X2 := hide ((unhide X1).then hb2); clear b1 c0 c1 c2 d0 d1 d2 X1 hb2; obtain ⟨b2, c0, c1, c2, d0, d1, d2⟩ := unhide X2)
    | (go_at_call 9; refine (unhide H2 _ ((unhide HT).below b2)).mono ?_; rintro e w3 ⟨rfl, hb3⟩; have X3 := hide ((unhide X2).then hb3); clear b2 c0 c1 c2 d0 d1 d2 X2 hb3; obtain ⟨b3, c0, c1, c2, d0, d1, d2⟩ := unhide X3))
  go_ret
  exact ⟨rfl, b3⟩

set_option maxRecDepth 10000 in
set_option maxHeartbeats 2000000 in
theorem apart_p (K G : Int) (P Q : ByteArray) (w : World) (hT : Tab w) (s t : ByteArray) (e f : Nat) (w1 : wrapR K G P = (s, e)) (w2 : wrapR K G Q = (t, f)) (he : e = 0) (hf : f = 0) (hne : ¬ s = t) (hk : ¬ P = Q) :
    Calls Tryd.prog 7 #[.agg #[.int .i64 K, .int .i64 G, .string P], .agg #[.int .i64 K, .int .i64 G, .string Q]] w fun e w' => e = .returned (.bool true) ∧ Below w.heap.size w w' := by
  have hX := Box2.new w (.int .i64 K) (.int .i64 G) (.string P) (.int .i64 K) (.int .i64 G) (.string Q)
  have h1 := fun w' (h' : Tab w') => wrap_any K G P w' h'
  rw [w1] at h1
  have h2 := fun w' (h' : Tab w') => wrap_any K G Q w' h'
  rw [w2] at h2
  have H8 := hide (awake_any _ (hT.below hX.1))
  have H1 := hide h1
  have H2 := hide h2
  have HT := hide hT
  have HX := hide hX
  clear h1 h2 hT hX w1 w2
  subst he
  subst hf
  have hq := str_ne hne
  have k1 := str_ne hk
  clear hne hk
  go_enter Tryd.func7, Tryd.ntmps7
  go_wp2_with (first
    | (go_at_call 8; refine (unhide H8).mono ?_; rintro e w1 ⟨rfl, hb1⟩; have X1 := hide ((unhide HX).then hb1); obtain ⟨b1, c0, c1, c2, d0, d1, d2⟩ := unhide X1)
    | (go_at_call 9; refine (unhide H1 _ ((unhide HT).below b1)).mono ?_; rintro e w2 ⟨rfl, hb2⟩; have X2 := hide ((unhide X1).then hb2); clear b1 c0 c1 c2 d0 d1 d2 X1 hb2; obtain ⟨b2, c0, c1, c2, d0, d1, d2⟩ := unhide X2)
    | (go_at_call 9; refine (unhide H2 _ ((unhide HT).below b2)).mono ?_; rintro e w3 ⟨rfl, hb3⟩; have X3 := hide ((unhide X2).then hb3); clear b2 c0 c1 c2 d0 d1 d2 X2 hb3; obtain ⟨b3, c0, c1, c2, d0, d1, d2⟩ := unhide X3))
  go_ret
  exact ⟨rfl, b3⟩

set_option maxRecDepth 10000 in
set_option maxHeartbeats 2000000 in
theorem apart_same (K G : Int) (P : ByteArray) (w : World) (hT : Tab w) (s t : ByteArray) (e f : Nat) (w1 : wrapR K G P = (s, e)) (w2 : wrapR K G P = (t, f)) (he : e = 0) (hf : f = 0) (hs : s = t) :
    Calls Tryd.prog 7 #[.agg #[.int .i64 K, .int .i64 G, .string P], .agg #[.int .i64 K, .int .i64 G, .string P]] w fun e w' => e = .returned (.bool true) ∧ Below w.heap.size w w' := by
  have hX := Box2.new w (.int .i64 K) (.int .i64 G) (.string P) (.int .i64 K) (.int .i64 G) (.string P)
  have h1 := fun w' (h' : Tab w') => wrap_any K G P w' h'
  rw [w1] at h1
  have h2 := fun w' (h' : Tab w') => wrap_any K G P w' h'
  rw [w2] at h2
  have H8 := hide (awake_any _ (hT.below hX.1))
  have H1 := hide h1
  have H2 := hide h2
  have HT := hide hT
  have HX := hide hX
  clear h1 h2 hT hX w1 w2
  subst he
  subst hf
  subst hs
  go_enter Tryd.func7, Tryd.ntmps7
  go_wp2_with (first
    | (go_at_call 8; refine (unhide H8).mono ?_; rintro e w1 ⟨rfl, hb1⟩; have X1 := hide ((unhide HX).then hb1); obtain ⟨b1, c0, c1, c2, d0, d1, d2⟩ := unhide X1)
    | (go_at_call 9; refine (unhide H1 _ ((unhide HT).below b1)).mono ?_; rintro e w2 ⟨rfl, hb2⟩; have X2 := hide ((unhide X1).then hb2); clear b1 c0 c1 c2 d0 d1 d2 X1 hb2; obtain ⟨b2, c0, c1, c2, d0, d1, d2⟩ := unhide X2)
    | (go_at_call 9; refine (unhide H2 _ ((unhide HT).below b2)).mono ?_; rintro e w3 ⟨rfl, hb3⟩; have X3 := hide ((unhide X2).then hb3); clear b2 c0 c1 c2 d0 d1 d2 X2 hb3; obtain ⟨b3, c0, c1, c2, d0, d1, d2⟩ := unhide X3))
  go_ret
  exact ⟨rfl, b3⟩

theorem apart_any (K G : Int) (P : ByteArray) (L H : Int) (Q : ByteArray) (w : World) (hT : Tab w) :
    Calls Tryd.prog 7 #[.agg #[.int .i64 K, .int .i64 G, .string P], .agg #[.int .i64 L, .int .i64 H, .string Q]] w fun e w' => e = .returned (.bool true) ∧ Below w.heap.size w w' := by
  rcases wrapR_cases K G P with ⟨k, g, rfl, rfl, hk, hg, hp, hw⟩ | ⟨e, he, hw⟩
  · rcases wrapR_cases L H Q with ⟨l, h, rfl, rfl, hl, hh, hq, hw'⟩ | ⟨e, he, hw'⟩
    · have o1 := open_wrap hk hg hp
      have o2 := open_wrap hl hh hq
      by_cases hs : strOf (Blk.sector k g (bn P)) = strOf (Blk.sector l h (bn Q))
      · rw [hs, o2] at o1
        obtain ⟨e1, e2, rfl⟩ : (l : Int) = k ∧ (h : Int) = g ∧ Q = P := by simpa using o1
        rw [e1, e2] at hw' ⊢
        exact apart_same _ _ _ w hT _ _ _ _ hw hw' rfl rfl hs
      · by_cases h1 : (k : Int) = l
        · rw [← h1] at hw' ⊢
          by_cases h2 : (g : Int) = h
          · rw [← h2] at hw' ⊢
            by_cases h3 : P = Q
            · subst h3
              rw [hw'] at hw
              exact absurd (congrArg Prod.fst hw).symm hs
            · exact apart_p _ _ _ _ w hT _ _ _ _ hw hw' rfl rfl hs h3
          · exact apart_g _ _ _ _ _ w hT _ _ _ _ hw hw' rfl rfl hs h2
        · exact apart_k _ _ _ _ _ _ w hT _ _ _ _ hw hw' rfl rfl hs h1
    · exact apart_f _ _ _ _ _ _ w hT _ _ _ _ hw hw' rfl (by omega)
  · exact apart_e _ _ _ _ _ _ w hT _ _ _ _ hw rfl (by omega)
end Go.Proofs.YtlccdefpgkmmnaaDoor
