/- Texts that the proof needs, one behind the other. -/
import Derived.Test.YtdelobaiicoogaaGreatDoorMad
import Derived.Deep.RegionHeld3
/- Whether entries are right, as the program asks it. -/
namespace Go.Proofs.YtdelobaiicoogaaGreatDoor.L6
open Go.ChangeShapes Go.WideShapes Go.ChangeAt Go.RowKit

/-- what yields is taken first -/
theorem takeY {P : Program} {md : Region.Mode} {ops : Array Oper} {Q : Exit → Act → World → Prop} {S : World → Prop} {oi : Oper} {fuel : Nat} {listed : Array Bool} {a : Act} {w : World} (i : Nat) (d : Option Tmp) (v : Value) (hi : ops[i]? = some oi) (hd : oi.dst = d)
    (hs : Region.noSelect ops = true) (hf : Region.free md ops listed i = true) (hr : (Region.ready md ops listed).contains i = true)
    (hQ : ∀ c a w, Q (.panic c) (a.put oi.dst v) w → Q (.panic c) a w) (hw : Region.wanted oi (yielded ops a.tmps) = true) (hy : ∀ w, S w → (execOp a.eval oi).run P w = .ok (.value v) w) (hS : S w)
    (h : wpAnyH P md ops Q S fuel (listed.setIfInBounds i true) (a.put d v) w) : wpAnyH P md ops Q S (fuel + 1) listed a w := by
  subst hd
  exact wpAnyH_take hi hs hf hr hQ (Or.inl ⟨hw, hy⟩) hS h
/-- what its guard leaves out is taken first -/
theorem takeN {P : Program} {md : Region.Mode} {ops : Array Oper} {Q : Exit → Act → World → Prop} {S : World → Prop} {oi : Oper} {fuel : Nat} {listed : Array Bool} {a : Act} {w : World} (i : Nat) (d : Option Tmp) (hi : ops[i]? = some oi) (hd : oi.dst = d)
    (hs : Region.noSelect ops = true) (hf : Region.free md ops listed i = true) (hr : (Region.ready md ops listed).contains i = true)
    (hQ : ∀ c a w, Q (.panic c) (a.put oi.dst undef) w → Q (.panic c) a w) (hw : Region.wanted oi (yielded ops a.tmps) = false) (hS : S w)
    (h : wpAnyH P md ops Q S fuel (listed.setIfInBounds i true) (a.put d undef) w) : wpAnyH P md ops Q S (fuel + 1) listed a w := by
  subst hd
  exact wpAnyH_take hi hs hf hr hQ (Or.inr ⟨hw, rfl⟩) hS h
theorem cell_keep_of' {W w : World} {p : Addr} {v : Value} (h : W.cell? p = some v) (hb : Below W.heap.size W w) : w.cell? p = some v := cell_keep h hb
theorem cell_keep_of {W w : World} {p : Addr} {v : Value} (hb : Below W.heap.size W w) (h : W.cell? p = some v) : w.cell? p = some v := cell_keep h hb

set_option maxRecDepth 10000 in
set_option maxHeartbeats 4000000 in
theorem areRightI_any (a : Option Addr) (cap : Nat) (l : List (ByteArray × ByteArray)) (w : World) (hr : Row Value.string w a l) (hl : l.length ≤ 1000000) :
    Calls Tryz.prog 160 #[.slice a l.length cap, .func (.func 77) #[] #[], .func (.func 161) #[] #[]] w fun e w' => e = .returned (.bool (!l.isEmpty && rise mayI none l)) ∧ Below w.heap.size w w' := by
  have HR := hide hr
  clear hr
  go_enter Tryz.func160, Tryz.ntmps160
  go_wp2
  go_loopw [11] (fun t wr => ∃ k : Nat, k ≤ l.length ∧ t = .int .i64 k ∧ Upto mayI l k ∧ Below w.heap.size w wr) (fun t _ => l.length - (intOf t).toNat)
  case atStart => exact ⟨0, Nat.zero_le _, rfl, Upto.start _ _, Below.refl _ _⟩
  case round =>
    obtain ⟨k, hk, rfl, hu, hbel⟩ := hrel
    have HU := hide hu
    have HBel := hide hbel
    clear hu hbel
    by_cases hlt : k < l.length
    · obtain ⟨b, off, rfl, hr⟩ := (unhide HR).at hlt
      obtain ⟨⟨key, val⟩, hx⟩ := get_some hlt
      have hne : (!l.isEmpty) = true := by cases l with
        | nil => simp at hlt
        | cons _ _ => rfl
      have c0 := cell_keep_of (unhide HBel) (hr k _ hx).1
      have c1 := cell_keep_of (unhide HBel) (hr k _ hx).2
      simp only at c0 c1
      have HX := hide hx
      have HROW := hide hr
      clear hx hr HR
      by_cases hm : mayI (key, val) = true
      · have HM := hide (fun W => mayItem_any key val W)
        rw [hm] at HM
        have HMX := hide hm
        clear hm
        by_cases h0 : k = 0
        · subst h0
          clear hne
          rw [Nat.zero_mul, Nat.add_zero] at c0 c1
          go_wp2_with fail
          have HB : Below w.heap.size w (wr.alloc (.cells #[.string key, .string val] 58)) := below_then (unhide HBel) (below_alloc _ _)
          have q0 : (wr.alloc (.cells #[.string key, .string val] 58)).cell? ⟨wr.heap.size, 0, none⟩ = some (.string key) := by simp
          have q1 : (wr.alloc (.cells #[.string key, .string val] 58)).cell? ⟨wr.heap.size, 1, none⟩ = some (.string val) := by simp
          obtain ⟨p, hp⟩ : ∃ y, y = wr.heap.size := ⟨_, rfl⟩
          rw [← hp] at q0 q1 ⊢
          clear hp c0 c1
          have HWA := below_alloc wr (.cells #[.string key, .string val] 58)
          generalize wr.alloc (.cells #[.string key, .string val] 58) = wa at *
          refine wp_region_noPanic ?_
          refine wp_region_held_drew (S := fun w' => Below w.heap.size w w' ∧ w'.cell? ⟨p, 0, none⟩ = some (.string key) ∧ w'.cell? ⟨p, 1, none⟩ = some (.string val)) (by kernel_rfl) (⟨HB.drew, q0, q1⟩) (fun hHeld => ?_)
          refine takeY 0 (some 16) ?_ rfl rfl (by kernel_rfl) (by kernel_rfl) (by kernel_rfl) (fun _ _ _ h => h) (by rfl) ?_ hHeld ?_
          rotate_left
          · intro w hSw; (try dsimp only at hSw); go_simp <;> with_reducible rfl
          simp only [Act.put, List.setIfInBounds_toArray, List.set_cons_zero, List.set_cons_succ]
          refine takeY 1 (some 17) ?_ rfl rfl (by kernel_rfl) (by kernel_rfl) (by kernel_rfl) (fun _ _ _ h => h) (by rfl) ?_ hHeld ?_
          rotate_left
          · intro w hSw; (try dsimp only at hSw); go_simp <;> with_reducible rfl
          simp only [Act.put, List.setIfInBounds_toArray, List.set_cons_zero, List.set_cons_succ]
          refine wpAnyH_ready (rs := [2]) (by kernel_rfl) (by simp) ?_
          refine AllReadyH.cons rfl (fun K hK => ?_) AllReadyH.nil
          go_simp
          refine (unhide HM _).mono ?_
          rintro e w2 ⟨rfl, hb⟩
          refine hK.out _ _ (⟨below_then hHeld.1 hb, cell_keep hHeld.2.1 hb, cell_keep hHeld.2.2 hb⟩) (fun hHeld => ?_)
          clear hK K
          try simp only [Act.put, List.setIfInBounds_toArray, List.set_cons_zero, List.set_cons_succ]
          refine takeY 3 (some 19) ?_ rfl rfl (by kernel_rfl) (by kernel_rfl) (by kernel_rfl) (fun _ _ _ h => h) (by rfl) ?_ hHeld ?_
          rotate_left
          · intro w hSw; (try dsimp only at hSw); go_simp <;> with_reducible rfl
          simp only [Act.put, List.setIfInBounds_toArray, List.set_cons_zero, List.set_cons_succ]
          refine takeY 4 (some 20) ?_ rfl rfl (by kernel_rfl) (by kernel_rfl) (by kernel_rfl) (fun _ _ _ h => h) (by rfl) ?_ hHeld ?_
          rotate_left
          · intro w hSw; (try dsimp only at hSw); go_simp <;> with_reducible rfl
          simp only [Act.put, List.setIfInBounds_toArray, List.set_cons_zero, List.set_cons_succ]
          refine takeY 5 (some 21) ?_ rfl rfl (by kernel_rfl) (by kernel_rfl) (by kernel_rfl) (fun _ _ _ h => h) (by rfl) ?_ hHeld ?_
          rotate_left
          · intro w hSw; (try dsimp only at hSw); go_simp <;> with_reducible rfl
          simp only [Act.put, List.setIfInBounds_toArray, List.set_cons_zero, List.set_cons_succ]
          refine takeY 6 (some 22) ?_ rfl rfl (by kernel_rfl) (by kernel_rfl) (by kernel_rfl) (fun _ _ _ h => h) (by rfl) ?_ hHeld ?_
          rotate_left
          · intro w hSw; (try dsimp only at hSw); go_simp <;> with_reducible rfl
          simp only [Act.put, List.setIfInBounds_toArray, List.set_cons_zero, List.set_cons_succ]
          refine takeY 7 (some 23) ?_ rfl rfl (by kernel_rfl) (by kernel_rfl) (by kernel_rfl) (fun _ _ _ h => h) (by rfl) ?_ hHeld ?_
          rotate_left
          · intro w hSw; (try dsimp only at hSw); go_simp <;> with_reducible rfl
          simp only [Act.put, List.setIfInBounds_toArray, List.set_cons_zero, List.set_cons_succ]
          refine takeN 8 (some 24) rfl rfl (by kernel_rfl) (by kernel_rfl) (by kernel_rfl) (fun _ _ _ h => h) (by rfl) hHeld ?_
          simp only [Act.put, List.setIfInBounds_toArray, List.set_cons_zero, List.set_cons_succ]
          refine takeN 9 (some 25) rfl rfl (by kernel_rfl) (by kernel_rfl) (by kernel_rfl) (fun _ _ _ h => h) (by rfl) hHeld ?_
          simp only [Act.put, List.setIfInBounds_toArray, List.set_cons_zero, List.set_cons_succ]
          refine takeN 10 (some 26) rfl rfl (by kernel_rfl) (by kernel_rfl) (by kernel_rfl) (fun _ _ _ h => h) (by rfl) hHeld ?_
          simp only [Act.put, List.setIfInBounds_toArray, List.set_cons_zero, List.set_cons_succ]
          refine takeN 11 (some 27) rfl rfl (by kernel_rfl) (by kernel_rfl) (by kernel_rfl) (fun _ _ _ h => h) (by rfl) hHeld ?_
          simp only [Act.put, List.setIfInBounds_toArray, List.set_cons_zero, List.set_cons_succ]
          refine takeN 12 (some 28) rfl rfl (by kernel_rfl) (by kernel_rfl) (by kernel_rfl) (fun _ _ _ h => h) (by rfl) hHeld ?_
          simp only [Act.put, List.setIfInBounds_toArray, List.set_cons_zero, List.set_cons_succ]
          refine takeN 13 (some 29) rfl rfl (by kernel_rfl) (by kernel_rfl) (by kernel_rfl) (fun _ _ _ h => h) (by rfl) hHeld ?_
          simp only [Act.put, List.setIfInBounds_toArray, List.set_cons_zero, List.set_cons_succ]
          refine takeN 14 (some 30) rfl rfl (by kernel_rfl) (by kernel_rfl) (by kernel_rfl) (fun _ _ _ h => h) (by rfl) hHeld ?_
          simp only [Act.put, List.setIfInBounds_toArray, List.set_cons_zero, List.set_cons_succ]
          refine takeN 15 (some 31) rfl rfl (by kernel_rfl) (by kernel_rfl) (by kernel_rfl) (fun _ _ _ h => h) (by rfl) hHeld ?_
          simp only [Act.put, List.setIfInBounds_toArray, List.set_cons_zero, List.set_cons_succ]
          refine takeN 16 (some 32) rfl rfl (by kernel_rfl) (by kernel_rfl) (by kernel_rfl) (fun _ _ _ h => h) (by rfl) hHeld ?_
          simp only [Act.put, List.setIfInBounds_toArray, List.set_cons_zero, List.set_cons_succ]
          refine takeN 17 (some 33) rfl rfl (by kernel_rfl) (by kernel_rfl) (by kernel_rfl) (fun _ _ _ h => h) (by rfl) hHeld ?_
          simp only [Act.put, List.setIfInBounds_toArray, List.set_cons_zero, List.set_cons_succ]
          refine takeN 18 (some 34) rfl rfl (by kernel_rfl) (by kernel_rfl) (by kernel_rfl) (fun _ _ _ h => h) (by rfl) hHeld ?_
          simp only [Act.put, List.setIfInBounds_toArray, List.set_cons_zero, List.set_cons_succ]
          refine takeY 19 (some 35) ?_ rfl rfl (by kernel_rfl) (by kernel_rfl) (by kernel_rfl) (fun _ _ _ h => h) (by rfl) ?_ hHeld ?_
          rotate_left
          · intro w hSw; (try dsimp only at hSw); go_simp <;> with_reducible rfl
          simp only [Act.put, List.setIfInBounds_toArray, List.set_cons_zero, List.set_cons_succ]
          refine takeY 20 (some 36) ?_ rfl rfl (by kernel_rfl) (by kernel_rfl) (by kernel_rfl) (fun _ _ _ h => h) (by rfl) ?_ hHeld ?_
          rotate_left
          · intro w hSw; (try dsimp only at hSw); go_simp <;> with_reducible rfl
          simp only [Act.put, List.setIfInBounds_toArray, List.set_cons_zero, List.set_cons_succ]
          refine wpAnyH_done (by kernel_rfl) ?_ _
          refine NoPanic.normal ?_
          have HF := hide hHeld.1
          clear hHeld hb q0 q1 HB HWA
          go_wp2
          go_roundw
          case rel => exact ⟨1, by omega, by go_num, (unhide HU).first (unhide HX) (unhide HMX), unhide HF⟩
          case measure => simp [intOf]; omega
        · obtain ⟨j, hj⟩ : ∃ j, j + 1 = k := ⟨k - 1, by omega⟩
          have v0 : 0 < k := by omega
          have v1 : (k : Int) - 1 = (j : Int) := by omega
          have v2 : IntKind.i64.wrap (j : Int) = (j : Int) := by rw [IntKind.wrap_i64]; omega
          have v3 : j < l.length := by omega
          have v4 : (j : Int) < (l.length : Int) := by omega
          have HJ := hide hj
          clear h0 hj
          obtain ⟨⟨ky, vy⟩, hy⟩ := get_some (show j < l.length by omega)
          have d0 := cell_keep_of (unhide HBel) ((unhide HROW) j _ hy).1
          have d1 := cell_keep_of (unhide HBel) ((unhide HROW) j _ hy).2
          simp only at d0 d1
          have HY := hide hy
          have D0 := hide d0
          have D1 := hide d1
          clear hy HROW d0 d1
          have HK := hide (fun W => itemKey_any key val W)
          have HKY := hide (fun W => itemKey_any ky vy W)
          go_wp2_with fail
          have HB : Below w.heap.size w (wr.alloc (.cells #[.string key, .string val] 58)) := below_then (unhide HBel) (below_alloc _ _)
          have q0 : (wr.alloc (.cells #[.string key, .string val] 58)).cell? ⟨wr.heap.size, 0, none⟩ = some (.string key) := by simp
          have q1 : (wr.alloc (.cells #[.string key, .string val] 58)).cell? ⟨wr.heap.size, 1, none⟩ = some (.string val) := by simp
          obtain ⟨p, hp⟩ : ∃ y, y = wr.heap.size := ⟨_, rfl⟩
          rw [← hp] at q0 q1 ⊢
          clear hp c0 c1
          have HWA := below_alloc wr (.cells #[.string key, .string val] 58)
          generalize wr.alloc (.cells #[.string key, .string val] 58) = wa at *
          have e0 := cell_keep_of' (unhide D0) HWA
          have e1 := cell_keep_of' (unhide D1) HWA
          have KP : Hid (∀ w1 w2, (fun w' => Below w.heap.size w w' ∧ w'.cell? ⟨p, 0, none⟩ = some (.string key) ∧ w'.cell? ⟨p, 1, none⟩ = some (.string val) ∧ w'.cell? ⟨b, off + j * 2, none⟩ = some (.string ky) ∧ w'.cell? ⟨b, off + j * 2 + 1, none⟩ = some (.string vy)) w1 → Below w1.heap.size w1 w2 → (fun w' => Below w.heap.size w w' ∧ w'.cell? ⟨p, 0, none⟩ = some (.string key) ∧ w'.cell? ⟨p, 1, none⟩ = some (.string val) ∧ w'.cell? ⟨b, off + j * 2, none⟩ = some (.string ky) ∧ w'.cell? ⟨b, off + j * 2 + 1, none⟩ = some (.string vy)) w2) := fun w1 w2 h hb => ⟨below_then h.1 hb, cell_keep h.2.1 hb, cell_keep h.2.2.1 hb, cell_keep h.2.2.2.1 hb, cell_keep h.2.2.2.2 hb⟩
          have H0 : Hid ((fun w' => Below w.heap.size w w' ∧ w'.cell? ⟨p, 0, none⟩ = some (.string key) ∧ w'.cell? ⟨p, 1, none⟩ = some (.string val) ∧ w'.cell? ⟨b, off + j * 2, none⟩ = some (.string ky) ∧ w'.cell? ⟨b, off + j * 2 + 1, none⟩ = some (.string vy)) wa.drew) := ⟨HB.drew, q0, q1, e0, e1⟩
          clear q0 q1 e0 e1 HB D0 D1 HWA
          go_region_held3 (fun w' => Below w.heap.size w w' ∧ w'.cell? ⟨p, 0, none⟩ = some (.string key) ∧ w'.cell? ⟨p, 1, none⟩ = some (.string val) ∧ w'.cell? ⟨b, off + j * 2, none⟩ = some (.string ky) ∧ w'.cell? ⟨b, off + j * 2 + 1, none⟩ = some (.string vy))
            (first | assumption | exact unhide H0)
            (first
              | (go_at_call 161; refine (unhide HM _).mono ?_; rintro e w2 ⟨rfl, hb⟩; have H2 := unhide KP _ _ (by assumption) hb; clear hb)
              | (go_at_call 77; (first | refine (unhide HK _).mono ?_ | refine (unhide HKY _).mono ?_); rintro e w3 ⟨rfl, hb⟩; have H3 := unhide KP _ _ (by assumption) hb; clear hb))
          have HF := hide H3.1
          clear KP H0 H2 H3 HM HK HKY
          rw [leq_flip]
          by_cases hls : less ky key = true
          · have HLS := hide hls
            rw [hls, Bool.not_true]
            clear hls
            go_wp2
            go_roundw
            case rel =>
              have hj := unhide HJ
              subst hj
              exact ⟨j + 2, by omega, by go_num, (unhide HU).next (unhide HX) (unhide HY) (unhide HMX) (unhide HLS), unhide HF⟩
            case measure => simp [intOf]; omega
          · have hls : less ky key = false := by simpa using hls
            have HN : Hid (rise mayI none l = false) := by
              show _ = _
              have hj := unhide HJ
              subst hj
              exact (unhide HU).falls (unhide HX) (unhide HY) hls
            rw [hls, Bool.not_false]
            clear hls
            go_wp2
            go_ret
            exact ⟨ret_bool (by rw [unhide HN, Bool.and_false]), unhide HF⟩
      · have hm : mayI (key, val) = false := by simpa using hm
        have HM := hide (fun W => mayItem_any key val W)
        rw [hm] at HM
        have HN := hide ((unhide HU).bad (unhide HX) hm)
        clear HU hm hne
        go_wp2_with fail
        have HB : Below w.heap.size w (wr.alloc (.cells #[.string key, .string val] 58)) := below_then (unhide HBel) (below_alloc _ _)
        have q0 : (wr.alloc (.cells #[.string key, .string val] 58)).cell? ⟨wr.heap.size, 0, none⟩ = some (.string key) := by simp
        have q1 : (wr.alloc (.cells #[.string key, .string val] 58)).cell? ⟨wr.heap.size, 1, none⟩ = some (.string val) := by simp
        obtain ⟨p, hp⟩ : ∃ y, y = wr.heap.size := ⟨_, rfl⟩
        rw [← hp] at q0 q1 ⊢
        clear hp c0 c1
        have HWA := below_alloc wr (.cells #[.string key, .string val] 58)
        generalize wr.alloc (.cells #[.string key, .string val] 58) = wa at *
        refine wp_region_noPanic ?_
        refine wp_region_held_drew (S := fun w' => Below w.heap.size w w' ∧ w'.cell? ⟨p, 0, none⟩ = some (.string key) ∧ w'.cell? ⟨p, 1, none⟩ = some (.string val)) (by kernel_rfl) (⟨HB.drew, q0, q1⟩) (fun hHeld => ?_)
        refine takeY 0 (some 16) ?_ rfl rfl (by kernel_rfl) (by kernel_rfl) (by kernel_rfl) (fun _ _ _ h => h) (by rfl) ?_ hHeld ?_
        rotate_left
        · intro w hSw; (try dsimp only at hSw); go_simp <;> with_reducible rfl
        simp only [Act.put, List.setIfInBounds_toArray, List.set_cons_zero, List.set_cons_succ]
        refine takeY 1 (some 17) ?_ rfl rfl (by kernel_rfl) (by kernel_rfl) (by kernel_rfl) (fun _ _ _ h => h) (by rfl) ?_ hHeld ?_
        rotate_left
        · intro w hSw; (try dsimp only at hSw); go_simp <;> with_reducible rfl
        simp only [Act.put, List.setIfInBounds_toArray, List.set_cons_zero, List.set_cons_succ]
        refine wpAnyH_ready (rs := [2]) (by kernel_rfl) (by simp) ?_
        refine AllReadyH.cons rfl (fun K hK => ?_) AllReadyH.nil
        go_simp
        refine (unhide HM _).mono ?_
        rintro e w2 ⟨rfl, hb⟩
        refine hK.out _ _ (⟨below_then hHeld.1 hb, cell_keep hHeld.2.1 hb, cell_keep hHeld.2.2 hb⟩) (fun hHeld => ?_)
        clear hK K
        try simp only [Act.put, List.setIfInBounds_toArray, List.set_cons_zero, List.set_cons_succ]
        refine takeY 3 (some 19) ?_ rfl rfl (by kernel_rfl) (by kernel_rfl) (by kernel_rfl) (fun _ _ _ h => h) (by rfl) ?_ hHeld ?_
        rotate_left
        · intro w hSw; (try dsimp only at hSw); go_simp <;> with_reducible rfl
        simp only [Act.put, List.setIfInBounds_toArray, List.set_cons_zero, List.set_cons_succ]
        refine takeY 4 (some 20) ?_ rfl rfl (by kernel_rfl) (by kernel_rfl) (by kernel_rfl) (fun _ _ _ h => h) (by rfl) ?_ hHeld ?_
        rotate_left
        · intro w hSw; (try dsimp only at hSw); go_simp <;> with_reducible rfl
        simp only [Act.put, List.setIfInBounds_toArray, List.set_cons_zero, List.set_cons_succ]
        refine takeN 5 (some 21) rfl rfl (by kernel_rfl) (by kernel_rfl) (by kernel_rfl) (fun _ _ _ h => h) (by rfl) hHeld ?_
        simp only [Act.put, List.setIfInBounds_toArray, List.set_cons_zero, List.set_cons_succ]
        refine takeN 6 (some 22) rfl rfl (by kernel_rfl) (by kernel_rfl) (by kernel_rfl) (fun _ _ _ h => h) (by rfl) hHeld ?_
        simp only [Act.put, List.setIfInBounds_toArray, List.set_cons_zero, List.set_cons_succ]
        refine takeN 7 (some 23) rfl rfl (by kernel_rfl) (by kernel_rfl) (by kernel_rfl) (fun _ _ _ h => h) (by rfl) hHeld ?_
        simp only [Act.put, List.setIfInBounds_toArray, List.set_cons_zero, List.set_cons_succ]
        refine takeN 8 (some 24) rfl rfl (by kernel_rfl) (by kernel_rfl) (by kernel_rfl) (fun _ _ _ h => h) (by rfl) hHeld ?_
        simp only [Act.put, List.setIfInBounds_toArray, List.set_cons_zero, List.set_cons_succ]
        refine takeN 9 (some 25) rfl rfl (by kernel_rfl) (by kernel_rfl) (by kernel_rfl) (fun _ _ _ h => h) (by rfl) hHeld ?_
        simp only [Act.put, List.setIfInBounds_toArray, List.set_cons_zero, List.set_cons_succ]
        refine takeN 10 (some 26) rfl rfl (by kernel_rfl) (by kernel_rfl) (by kernel_rfl) (fun _ _ _ h => h) (by rfl) hHeld ?_
        simp only [Act.put, List.setIfInBounds_toArray, List.set_cons_zero, List.set_cons_succ]
        refine takeN 11 (some 27) rfl rfl (by kernel_rfl) (by kernel_rfl) (by kernel_rfl) (fun _ _ _ h => h) (by rfl) hHeld ?_
        simp only [Act.put, List.setIfInBounds_toArray, List.set_cons_zero, List.set_cons_succ]
        refine takeN 12 (some 28) rfl rfl (by kernel_rfl) (by kernel_rfl) (by kernel_rfl) (fun _ _ _ h => h) (by rfl) hHeld ?_
        simp only [Act.put, List.setIfInBounds_toArray, List.set_cons_zero, List.set_cons_succ]
        refine takeN 13 (some 29) rfl rfl (by kernel_rfl) (by kernel_rfl) (by kernel_rfl) (fun _ _ _ h => h) (by rfl) hHeld ?_
        simp only [Act.put, List.setIfInBounds_toArray, List.set_cons_zero, List.set_cons_succ]
        refine takeN 14 (some 30) rfl rfl (by kernel_rfl) (by kernel_rfl) (by kernel_rfl) (fun _ _ _ h => h) (by rfl) hHeld ?_
        simp only [Act.put, List.setIfInBounds_toArray, List.set_cons_zero, List.set_cons_succ]
        refine takeN 15 (some 31) rfl rfl (by kernel_rfl) (by kernel_rfl) (by kernel_rfl) (fun _ _ _ h => h) (by rfl) hHeld ?_
        simp only [Act.put, List.setIfInBounds_toArray, List.set_cons_zero, List.set_cons_succ]
        refine takeN 16 (some 32) rfl rfl (by kernel_rfl) (by kernel_rfl) (by kernel_rfl) (fun _ _ _ h => h) (by rfl) hHeld ?_
        simp only [Act.put, List.setIfInBounds_toArray, List.set_cons_zero, List.set_cons_succ]
        refine takeN 17 (some 33) rfl rfl (by kernel_rfl) (by kernel_rfl) (by kernel_rfl) (fun _ _ _ h => h) (by rfl) hHeld ?_
        simp only [Act.put, List.setIfInBounds_toArray, List.set_cons_zero, List.set_cons_succ]
        refine takeN 18 (some 34) rfl rfl (by kernel_rfl) (by kernel_rfl) (by kernel_rfl) (fun _ _ _ h => h) (by rfl) hHeld ?_
        simp only [Act.put, List.setIfInBounds_toArray, List.set_cons_zero, List.set_cons_succ]
        refine takeN 19 (some 35) rfl rfl (by kernel_rfl) (by kernel_rfl) (by kernel_rfl) (fun _ _ _ h => h) (by rfl) hHeld ?_
        simp only [Act.put, List.setIfInBounds_toArray, List.set_cons_zero, List.set_cons_succ]
        refine takeY 20 (some 36) ?_ rfl rfl (by kernel_rfl) (by kernel_rfl) (by kernel_rfl) (fun _ _ _ h => h) (by rfl) ?_ hHeld ?_
        rotate_left
        · intro w hSw; (try dsimp only at hSw); go_simp <;> with_reducible rfl
        simp only [Act.put, List.setIfInBounds_toArray, List.set_cons_zero, List.set_cons_succ]
        refine wpAnyH_done (by kernel_rfl) ?_ _
        refine NoPanic.normal ?_
        have HF := hide hHeld.1
        clear hHeld hb q0 q1 HB HWA
        go_wp2
        go_ret
        exact ⟨ret_bool (by rw [unhide HN, Bool.and_false]), unhide HF⟩
    · obtain rfl : k = l.length := by omega
      have HD := hide (unhide HU).done
      clear HU
      go_wp2
      go_ret
      refine ⟨ret_bool ?_, unhide HBel⟩
      rw [unhide HD, Bool.and_true]
      cases l <;> simp

set_option maxRecDepth 10000 in
set_option maxHeartbeats 4000000 in
theorem areRightK_any (a : Option Addr) (cap : Nat) (l : List (ByteArray × Int)) (w : World) (hr : Row kv w a l) (hl : l.length ≤ 1000000) :
    Calls Tryz.prog 162 #[.slice a l.length cap, .func (.func 79) #[] #[], .func (.func 163) #[] #[]] w fun e w' => e = .returned (.bool (!l.isEmpty && rise mayK none l)) ∧ Below w.heap.size w w' := by
  have HR := hide hr
  clear hr
  go_enter Tryz.func162, Tryz.ntmps162
  go_wp2
  go_loopw [11] (fun t wr => ∃ k : Nat, k ≤ l.length ∧ t = .int .i64 k ∧ Upto mayK l k ∧ Below w.heap.size w wr) (fun t _ => l.length - (intOf t).toNat)
  case atStart => exact ⟨0, Nat.zero_le _, rfl, Upto.start _ _, Below.refl _ _⟩
  case round =>
    obtain ⟨k, hk, rfl, hu, hbel⟩ := hrel
    have HU := hide hu
    have HBel := hide hbel
    clear hu hbel
    by_cases hlt : k < l.length
    · obtain ⟨b, off, rfl, hr⟩ := (unhide HR).at hlt
      obtain ⟨⟨key, val⟩, hx⟩ := get_some hlt
      have hne : (!l.isEmpty) = true := by cases l with
        | nil => simp at hlt
        | cons _ _ => rfl
      have c0 := cell_keep_of (unhide HBel) (hr k _ hx).1
      have c1 := cell_keep_of (unhide HBel) (hr k _ hx).2
      simp only at c0 c1
      have HX := hide hx
      have HROW := hide hr
      clear hx hr HR
      by_cases hm : mayK (key, val) = true
      · have HM := hide (fun W => mayKid_any key val W)
        rw [hm] at HM
        have HMX := hide hm
        clear hm
        by_cases h0 : k = 0
        · subst h0
          clear hne
          rw [Nat.zero_mul, Nat.add_zero] at c0 c1
          go_wp2_with fail
          have HB : Below w.heap.size w (wr.alloc (.cells #[.string key, .int .i64 val] 76)) := below_then (unhide HBel) (below_alloc _ _)
          have q0 : (wr.alloc (.cells #[.string key, .int .i64 val] 76)).cell? ⟨wr.heap.size, 0, none⟩ = some (.string key) := by simp
          have q1 : (wr.alloc (.cells #[.string key, .int .i64 val] 76)).cell? ⟨wr.heap.size, 1, none⟩ = some (.int .i64 val) := by simp
          obtain ⟨p, hp⟩ : ∃ y, y = wr.heap.size := ⟨_, rfl⟩
          rw [← hp] at q0 q1 ⊢
          clear hp c0 c1
          have HWA := below_alloc wr (.cells #[.string key, .int .i64 val] 76)
          generalize wr.alloc (.cells #[.string key, .int .i64 val] 76) = wa at *
          refine wp_region_noPanic ?_
          refine wp_region_held_drew (S := fun w' => Below w.heap.size w w' ∧ w'.cell? ⟨p, 0, none⟩ = some (.string key) ∧ w'.cell? ⟨p, 1, none⟩ = some (.int .i64 val)) (by kernel_rfl) (⟨HB.drew, q0, q1⟩) (fun hHeld => ?_)
          refine takeY 0 (some 16) ?_ rfl rfl (by kernel_rfl) (by kernel_rfl) (by kernel_rfl) (fun _ _ _ h => h) (by rfl) ?_ hHeld ?_
          rotate_left
          · intro w hSw; (try dsimp only at hSw); go_simp <;> with_reducible rfl
          simp only [Act.put, List.setIfInBounds_toArray, List.set_cons_zero, List.set_cons_succ]
          refine takeY 1 (some 17) ?_ rfl rfl (by kernel_rfl) (by kernel_rfl) (by kernel_rfl) (fun _ _ _ h => h) (by rfl) ?_ hHeld ?_
          rotate_left
          · intro w hSw; (try dsimp only at hSw); go_simp <;> with_reducible rfl
          simp only [Act.put, List.setIfInBounds_toArray, List.set_cons_zero, List.set_cons_succ]
          refine wpAnyH_ready (rs := [2]) (by kernel_rfl) (by simp) ?_
          refine AllReadyH.cons rfl (fun K hK => ?_) AllReadyH.nil
          go_simp
          refine (unhide HM _).mono ?_
          rintro e w2 ⟨rfl, hb⟩
          refine hK.out _ _ (⟨below_then hHeld.1 hb, cell_keep hHeld.2.1 hb, cell_keep hHeld.2.2 hb⟩) (fun hHeld => ?_)
          clear hK K
          try simp only [Act.put, List.setIfInBounds_toArray, List.set_cons_zero, List.set_cons_succ]
          refine takeY 3 (some 19) ?_ rfl rfl (by kernel_rfl) (by kernel_rfl) (by kernel_rfl) (fun _ _ _ h => h) (by rfl) ?_ hHeld ?_
          rotate_left
          · intro w hSw; (try dsimp only at hSw); go_simp <;> with_reducible rfl
          simp only [Act.put, List.setIfInBounds_toArray, List.set_cons_zero, List.set_cons_succ]
          refine takeY 4 (some 20) ?_ rfl rfl (by kernel_rfl) (by kernel_rfl) (by kernel_rfl) (fun _ _ _ h => h) (by rfl) ?_ hHeld ?_
          rotate_left
          · intro w hSw; (try dsimp only at hSw); go_simp <;> with_reducible rfl
          simp only [Act.put, List.setIfInBounds_toArray, List.set_cons_zero, List.set_cons_succ]
          refine takeY 5 (some 21) ?_ rfl rfl (by kernel_rfl) (by kernel_rfl) (by kernel_rfl) (fun _ _ _ h => h) (by rfl) ?_ hHeld ?_
          rotate_left
          · intro w hSw; (try dsimp only at hSw); go_simp <;> with_reducible rfl
          simp only [Act.put, List.setIfInBounds_toArray, List.set_cons_zero, List.set_cons_succ]
          refine takeY 6 (some 22) ?_ rfl rfl (by kernel_rfl) (by kernel_rfl) (by kernel_rfl) (fun _ _ _ h => h) (by rfl) ?_ hHeld ?_
          rotate_left
          · intro w hSw; (try dsimp only at hSw); go_simp <;> with_reducible rfl
          simp only [Act.put, List.setIfInBounds_toArray, List.set_cons_zero, List.set_cons_succ]
          refine takeY 7 (some 23) ?_ rfl rfl (by kernel_rfl) (by kernel_rfl) (by kernel_rfl) (fun _ _ _ h => h) (by rfl) ?_ hHeld ?_
          rotate_left
          · intro w hSw; (try dsimp only at hSw); go_simp <;> with_reducible rfl
          simp only [Act.put, List.setIfInBounds_toArray, List.set_cons_zero, List.set_cons_succ]
          refine takeN 8 (some 24) rfl rfl (by kernel_rfl) (by kernel_rfl) (by kernel_rfl) (fun _ _ _ h => h) (by rfl) hHeld ?_
          simp only [Act.put, List.setIfInBounds_toArray, List.set_cons_zero, List.set_cons_succ]
          refine takeN 9 (some 25) rfl rfl (by kernel_rfl) (by kernel_rfl) (by kernel_rfl) (fun _ _ _ h => h) (by rfl) hHeld ?_
          simp only [Act.put, List.setIfInBounds_toArray, List.set_cons_zero, List.set_cons_succ]
          refine takeN 10 (some 26) rfl rfl (by kernel_rfl) (by kernel_rfl) (by kernel_rfl) (fun _ _ _ h => h) (by rfl) hHeld ?_
          simp only [Act.put, List.setIfInBounds_toArray, List.set_cons_zero, List.set_cons_succ]
          refine takeN 11 (some 27) rfl rfl (by kernel_rfl) (by kernel_rfl) (by kernel_rfl) (fun _ _ _ h => h) (by rfl) hHeld ?_
          simp only [Act.put, List.setIfInBounds_toArray, List.set_cons_zero, List.set_cons_succ]
          refine takeN 12 (some 28) rfl rfl (by kernel_rfl) (by kernel_rfl) (by kernel_rfl) (fun _ _ _ h => h) (by rfl) hHeld ?_
          simp only [Act.put, List.setIfInBounds_toArray, List.set_cons_zero, List.set_cons_succ]
          refine takeN 13 (some 29) rfl rfl (by kernel_rfl) (by kernel_rfl) (by kernel_rfl) (fun _ _ _ h => h) (by rfl) hHeld ?_
          simp only [Act.put, List.setIfInBounds_toArray, List.set_cons_zero, List.set_cons_succ]
          refine takeN 14 (some 30) rfl rfl (by kernel_rfl) (by kernel_rfl) (by kernel_rfl) (fun _ _ _ h => h) (by rfl) hHeld ?_
          simp only [Act.put, List.setIfInBounds_toArray, List.set_cons_zero, List.set_cons_succ]
          refine takeN 15 (some 31) rfl rfl (by kernel_rfl) (by kernel_rfl) (by kernel_rfl) (fun _ _ _ h => h) (by rfl) hHeld ?_
          simp only [Act.put, List.setIfInBounds_toArray, List.set_cons_zero, List.set_cons_succ]
          refine takeN 16 (some 32) rfl rfl (by kernel_rfl) (by kernel_rfl) (by kernel_rfl) (fun _ _ _ h => h) (by rfl) hHeld ?_
          simp only [Act.put, List.setIfInBounds_toArray, List.set_cons_zero, List.set_cons_succ]
          refine takeN 17 (some 33) rfl rfl (by kernel_rfl) (by kernel_rfl) (by kernel_rfl) (fun _ _ _ h => h) (by rfl) hHeld ?_
          simp only [Act.put, List.setIfInBounds_toArray, List.set_cons_zero, List.set_cons_succ]
          refine takeN 18 (some 34) rfl rfl (by kernel_rfl) (by kernel_rfl) (by kernel_rfl) (fun _ _ _ h => h) (by rfl) hHeld ?_
          simp only [Act.put, List.setIfInBounds_toArray, List.set_cons_zero, List.set_cons_succ]
          refine takeY 19 (some 35) ?_ rfl rfl (by kernel_rfl) (by kernel_rfl) (by kernel_rfl) (fun _ _ _ h => h) (by rfl) ?_ hHeld ?_
          rotate_left
          · intro w hSw; (try dsimp only at hSw); go_simp <;> with_reducible rfl
          simp only [Act.put, List.setIfInBounds_toArray, List.set_cons_zero, List.set_cons_succ]
          refine takeY 20 (some 36) ?_ rfl rfl (by kernel_rfl) (by kernel_rfl) (by kernel_rfl) (fun _ _ _ h => h) (by rfl) ?_ hHeld ?_
          rotate_left
          · intro w hSw; (try dsimp only at hSw); go_simp <;> with_reducible rfl
          simp only [Act.put, List.setIfInBounds_toArray, List.set_cons_zero, List.set_cons_succ]
          refine wpAnyH_done (by kernel_rfl) ?_ _
          refine NoPanic.normal ?_
          have HF := hide hHeld.1
          clear hHeld hb q0 q1 HB HWA
          go_wp2
          go_roundw
          case rel => exact ⟨1, by omega, by go_num, (unhide HU).first (unhide HX) (unhide HMX), unhide HF⟩
          case measure => simp [intOf]; omega
        · obtain ⟨j, hj⟩ : ∃ j, j + 1 = k := ⟨k - 1, by omega⟩
          have v0 : 0 < k := by omega
          have v1 : (k : Int) - 1 = (j : Int) := by omega
          have v2 : IntKind.i64.wrap (j : Int) = (j : Int) := by rw [IntKind.wrap_i64]; omega
          have v3 : j < l.length := by omega
          have v4 : (j : Int) < (l.length : Int) := by omega
          have HJ := hide hj
          clear h0 hj
          obtain ⟨⟨ky, vy⟩, hy⟩ := get_some (show j < l.length by omega)
          have d0 := cell_keep_of (unhide HBel) ((unhide HROW) j _ hy).1
          have d1 := cell_keep_of (unhide HBel) ((unhide HROW) j _ hy).2
          simp only at d0 d1
          have HY := hide hy
          have D0 := hide d0
          have D1 := hide d1
          clear hy HROW d0 d1
          have HK := hide (fun W => kidKey_any key val W)
          have HKY := hide (fun W => kidKey_any ky vy W)
          go_wp2_with fail
          have HB : Below w.heap.size w (wr.alloc (.cells #[.string key, .int .i64 val] 76)) := below_then (unhide HBel) (below_alloc _ _)
          have q0 : (wr.alloc (.cells #[.string key, .int .i64 val] 76)).cell? ⟨wr.heap.size, 0, none⟩ = some (.string key) := by simp
          have q1 : (wr.alloc (.cells #[.string key, .int .i64 val] 76)).cell? ⟨wr.heap.size, 1, none⟩ = some (.int .i64 val) := by simp
          obtain ⟨p, hp⟩ : ∃ y, y = wr.heap.size := ⟨_, rfl⟩
          rw [← hp] at q0 q1 ⊢
          clear hp c0 c1
          have HWA := below_alloc wr (.cells #[.string key, .int .i64 val] 76)
          generalize wr.alloc (.cells #[.string key, .int .i64 val] 76) = wa at *
          have e0 := cell_keep_of' (unhide D0) HWA
          have e1 := cell_keep_of' (unhide D1) HWA
          have KP : Hid (∀ w1 w2, (fun w' => Below w.heap.size w w' ∧ w'.cell? ⟨p, 0, none⟩ = some (.string key) ∧ w'.cell? ⟨p, 1, none⟩ = some (.int .i64 val) ∧ w'.cell? ⟨b, off + j * 2, none⟩ = some (.string ky) ∧ w'.cell? ⟨b, off + j * 2 + 1, none⟩ = some (.int .i64 vy)) w1 → Below w1.heap.size w1 w2 → (fun w' => Below w.heap.size w w' ∧ w'.cell? ⟨p, 0, none⟩ = some (.string key) ∧ w'.cell? ⟨p, 1, none⟩ = some (.int .i64 val) ∧ w'.cell? ⟨b, off + j * 2, none⟩ = some (.string ky) ∧ w'.cell? ⟨b, off + j * 2 + 1, none⟩ = some (.int .i64 vy)) w2) := fun w1 w2 h hb => ⟨below_then h.1 hb, cell_keep h.2.1 hb, cell_keep h.2.2.1 hb, cell_keep h.2.2.2.1 hb, cell_keep h.2.2.2.2 hb⟩
          have H0 : Hid ((fun w' => Below w.heap.size w w' ∧ w'.cell? ⟨p, 0, none⟩ = some (.string key) ∧ w'.cell? ⟨p, 1, none⟩ = some (.int .i64 val) ∧ w'.cell? ⟨b, off + j * 2, none⟩ = some (.string ky) ∧ w'.cell? ⟨b, off + j * 2 + 1, none⟩ = some (.int .i64 vy)) wa.drew) := ⟨HB.drew, q0, q1, e0, e1⟩
          clear q0 q1 e0 e1 HB D0 D1 HWA
          go_region_held3 (fun w' => Below w.heap.size w w' ∧ w'.cell? ⟨p, 0, none⟩ = some (.string key) ∧ w'.cell? ⟨p, 1, none⟩ = some (.int .i64 val) ∧ w'.cell? ⟨b, off + j * 2, none⟩ = some (.string ky) ∧ w'.cell? ⟨b, off + j * 2 + 1, none⟩ = some (.int .i64 vy))
            (first | assumption | exact unhide H0)
            (first
              | (go_at_call 163; refine (unhide HM _).mono ?_; rintro e w2 ⟨rfl, hb⟩; have H2 := unhide KP _ _ (by assumption) hb; clear hb)
              | (go_at_call 79; (first | refine (unhide HK _).mono ?_ | refine (unhide HKY _).mono ?_); rintro e w3 ⟨rfl, hb⟩; have H3 := unhide KP _ _ (by assumption) hb; clear hb))
          have HF := hide H3.1
          clear KP H0 H2 H3 HM HK HKY
          rw [leq_flip]
          by_cases hls : less ky key = true
          · have HLS := hide hls
            rw [hls, Bool.not_true]
            clear hls
            go_wp2
            go_roundw
            case rel =>
              have hj := unhide HJ
              subst hj
              exact ⟨j + 2, by omega, by go_num, (unhide HU).next (unhide HX) (unhide HY) (unhide HMX) (unhide HLS), unhide HF⟩
            case measure => simp [intOf]; omega
          · have hls : less ky key = false := by simpa using hls
            have HN : Hid (rise mayK none l = false) := by
              show _ = _
              have hj := unhide HJ
              subst hj
              exact (unhide HU).falls (unhide HX) (unhide HY) hls
            rw [hls, Bool.not_false]
            clear hls
            go_wp2
            go_ret
            exact ⟨ret_bool (by rw [unhide HN, Bool.and_false]), unhide HF⟩
      · have hm : mayK (key, val) = false := by simpa using hm
        have HM := hide (fun W => mayKid_any key val W)
        rw [hm] at HM
        have HN := hide ((unhide HU).bad (unhide HX) hm)
        clear HU hm hne
        go_wp2_with fail
        have HB : Below w.heap.size w (wr.alloc (.cells #[.string key, .int .i64 val] 76)) := below_then (unhide HBel) (below_alloc _ _)
        have q0 : (wr.alloc (.cells #[.string key, .int .i64 val] 76)).cell? ⟨wr.heap.size, 0, none⟩ = some (.string key) := by simp
        have q1 : (wr.alloc (.cells #[.string key, .int .i64 val] 76)).cell? ⟨wr.heap.size, 1, none⟩ = some (.int .i64 val) := by simp
        obtain ⟨p, hp⟩ : ∃ y, y = wr.heap.size := ⟨_, rfl⟩
        rw [← hp] at q0 q1 ⊢
        clear hp c0 c1
        have HWA := below_alloc wr (.cells #[.string key, .int .i64 val] 76)
        generalize wr.alloc (.cells #[.string key, .int .i64 val] 76) = wa at *
        refine wp_region_noPanic ?_
        refine wp_region_held_drew (S := fun w' => Below w.heap.size w w' ∧ w'.cell? ⟨p, 0, none⟩ = some (.string key) ∧ w'.cell? ⟨p, 1, none⟩ = some (.int .i64 val)) (by kernel_rfl) (⟨HB.drew, q0, q1⟩) (fun hHeld => ?_)
        refine takeY 0 (some 16) ?_ rfl rfl (by kernel_rfl) (by kernel_rfl) (by kernel_rfl) (fun _ _ _ h => h) (by rfl) ?_ hHeld ?_
        rotate_left
        · intro w hSw; (try dsimp only at hSw); go_simp <;> with_reducible rfl
        simp only [Act.put, List.setIfInBounds_toArray, List.set_cons_zero, List.set_cons_succ]
        refine takeY 1 (some 17) ?_ rfl rfl (by kernel_rfl) (by kernel_rfl) (by kernel_rfl) (fun _ _ _ h => h) (by rfl) ?_ hHeld ?_
        rotate_left
        · intro w hSw; (try dsimp only at hSw); go_simp <;> with_reducible rfl
        simp only [Act.put, List.setIfInBounds_toArray, List.set_cons_zero, List.set_cons_succ]
        refine wpAnyH_ready (rs := [2]) (by kernel_rfl) (by simp) ?_
        refine AllReadyH.cons rfl (fun K hK => ?_) AllReadyH.nil
        go_simp
        refine (unhide HM _).mono ?_
        rintro e w2 ⟨rfl, hb⟩
        refine hK.out _ _ (⟨below_then hHeld.1 hb, cell_keep hHeld.2.1 hb, cell_keep hHeld.2.2 hb⟩) (fun hHeld => ?_)
        clear hK K
        try simp only [Act.put, List.setIfInBounds_toArray, List.set_cons_zero, List.set_cons_succ]
        refine takeY 3 (some 19) ?_ rfl rfl (by kernel_rfl) (by kernel_rfl) (by kernel_rfl) (fun _ _ _ h => h) (by rfl) ?_ hHeld ?_
        rotate_left
        · intro w hSw; (try dsimp only at hSw); go_simp <;> with_reducible rfl
        simp only [Act.put, List.setIfInBounds_toArray, List.set_cons_zero, List.set_cons_succ]
        refine takeY 4 (some 20) ?_ rfl rfl (by kernel_rfl) (by kernel_rfl) (by kernel_rfl) (fun _ _ _ h => h) (by rfl) ?_ hHeld ?_
        rotate_left
        · intro w hSw; (try dsimp only at hSw); go_simp <;> with_reducible rfl
        simp only [Act.put, List.setIfInBounds_toArray, List.set_cons_zero, List.set_cons_succ]
        refine takeN 5 (some 21) rfl rfl (by kernel_rfl) (by kernel_rfl) (by kernel_rfl) (fun _ _ _ h => h) (by rfl) hHeld ?_
        simp only [Act.put, List.setIfInBounds_toArray, List.set_cons_zero, List.set_cons_succ]
        refine takeN 6 (some 22) rfl rfl (by kernel_rfl) (by kernel_rfl) (by kernel_rfl) (fun _ _ _ h => h) (by rfl) hHeld ?_
        simp only [Act.put, List.setIfInBounds_toArray, List.set_cons_zero, List.set_cons_succ]
        refine takeN 7 (some 23) rfl rfl (by kernel_rfl) (by kernel_rfl) (by kernel_rfl) (fun _ _ _ h => h) (by rfl) hHeld ?_
        simp only [Act.put, List.setIfInBounds_toArray, List.set_cons_zero, List.set_cons_succ]
        refine takeN 8 (some 24) rfl rfl (by kernel_rfl) (by kernel_rfl) (by kernel_rfl) (fun _ _ _ h => h) (by rfl) hHeld ?_
        simp only [Act.put, List.setIfInBounds_toArray, List.set_cons_zero, List.set_cons_succ]
        refine takeN 9 (some 25) rfl rfl (by kernel_rfl) (by kernel_rfl) (by kernel_rfl) (fun _ _ _ h => h) (by rfl) hHeld ?_
        simp only [Act.put, List.setIfInBounds_toArray, List.set_cons_zero, List.set_cons_succ]
        refine takeN 10 (some 26) rfl rfl (by kernel_rfl) (by kernel_rfl) (by kernel_rfl) (fun _ _ _ h => h) (by rfl) hHeld ?_
        simp only [Act.put, List.setIfInBounds_toArray, List.set_cons_zero, List.set_cons_succ]
        refine takeN 11 (some 27) rfl rfl (by kernel_rfl) (by kernel_rfl) (by kernel_rfl) (fun _ _ _ h => h) (by rfl) hHeld ?_
        simp only [Act.put, List.setIfInBounds_toArray, List.set_cons_zero, List.set_cons_succ]
        refine takeN 12 (some 28) rfl rfl (by kernel_rfl) (by kernel_rfl) (by kernel_rfl) (fun _ _ _ h => h) (by rfl) hHeld ?_
        simp only [Act.put, List.setIfInBounds_toArray, List.set_cons_zero, List.set_cons_succ]
        refine takeN 13 (some 29) rfl rfl (by kernel_rfl) (by kernel_rfl) (by kernel_rfl) (fun _ _ _ h => h) (by rfl) hHeld ?_
        simp only [Act.put, List.setIfInBounds_toArray, List.set_cons_zero, List.set_cons_succ]
        refine takeN 14 (some 30) rfl rfl (by kernel_rfl) (by kernel_rfl) (by kernel_rfl) (fun _ _ _ h => h) (by rfl) hHeld ?_
        simp only [Act.put, List.setIfInBounds_toArray, List.set_cons_zero, List.set_cons_succ]
        refine takeN 15 (some 31) rfl rfl (by kernel_rfl) (by kernel_rfl) (by kernel_rfl) (fun _ _ _ h => h) (by rfl) hHeld ?_
        simp only [Act.put, List.setIfInBounds_toArray, List.set_cons_zero, List.set_cons_succ]
        refine takeN 16 (some 32) rfl rfl (by kernel_rfl) (by kernel_rfl) (by kernel_rfl) (fun _ _ _ h => h) (by rfl) hHeld ?_
        simp only [Act.put, List.setIfInBounds_toArray, List.set_cons_zero, List.set_cons_succ]
        refine takeN 17 (some 33) rfl rfl (by kernel_rfl) (by kernel_rfl) (by kernel_rfl) (fun _ _ _ h => h) (by rfl) hHeld ?_
        simp only [Act.put, List.setIfInBounds_toArray, List.set_cons_zero, List.set_cons_succ]
        refine takeN 18 (some 34) rfl rfl (by kernel_rfl) (by kernel_rfl) (by kernel_rfl) (fun _ _ _ h => h) (by rfl) hHeld ?_
        simp only [Act.put, List.setIfInBounds_toArray, List.set_cons_zero, List.set_cons_succ]
        refine takeN 19 (some 35) rfl rfl (by kernel_rfl) (by kernel_rfl) (by kernel_rfl) (fun _ _ _ h => h) (by rfl) hHeld ?_
        simp only [Act.put, List.setIfInBounds_toArray, List.set_cons_zero, List.set_cons_succ]
        refine takeY 20 (some 36) ?_ rfl rfl (by kernel_rfl) (by kernel_rfl) (by kernel_rfl) (fun _ _ _ h => h) (by rfl) ?_ hHeld ?_
        rotate_left
        · intro w hSw; (try dsimp only at hSw); go_simp <;> with_reducible rfl
        simp only [Act.put, List.setIfInBounds_toArray, List.set_cons_zero, List.set_cons_succ]
        refine wpAnyH_done (by kernel_rfl) ?_ _
        refine NoPanic.normal ?_
        have HF := hide hHeld.1
        clear hHeld hb q0 q1 HB HWA
        go_wp2
        go_ret
        exact ⟨ret_bool (by rw [unhide HN, Bool.and_false]), unhide HF⟩
    · obtain rfl : k = l.length := by omega
      have HD := hide (unhide HU).done
      clear HU
      go_wp2
      go_ret
      refine ⟨ret_bool ?_, unhide HBel⟩
      rw [unhide HD, Bool.and_true]
      cases l <;> simp
end Go.Proofs.YtdelobaiicoogaaGreatDoor.L6
