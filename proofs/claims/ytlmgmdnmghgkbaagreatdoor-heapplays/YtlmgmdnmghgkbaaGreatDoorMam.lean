/- Texts that the proof needs, one behind the other. -/
import Derived.Test.YtlmgmdnmghgkbaaGreatDoorMak
import Derived.Test.YtlmgmdnmghgkbaaGreatDoorMal
import Derived.Test.YtlmgmdnmghgkbaaGreatDoorMah
/- The document's heap: kind, kidsOf, read, Get, Hold, Settle. -/
namespace Go.Proofs.YtlmgmdnmghgkbaaGreatDoor
open Go.ChangeShapes Go.WideShapes Go.ChangeAt Go.RowKit
variable {w w' : World} {q r : Nat} {h : Hp} {a g : Nat} {fr : List Nat} {kv : List Value} {F : List Nat}

set_option maxHeartbeats 400000 in
theorem rkind_any (L : Bool) (v1 v2 : Value) (w : World) : Calls Tryz.prog 96 #[.agg #[.bool L, v1, v2]] w fun e w' => e = .returned (.int .i64 (if L then 1 else 2)) ∧ Below w.heap.size w w' := by
  cases L with
  | true =>
    go_enter Tryz.func96, Tryz.ntmps96
    go_wp2
    go_ret
    exact ⟨rfl, below_alloc _ _⟩
  | false =>
    go_enter Tryz.func96, Tryz.ntmps96
    go_wp2
    go_ret
    exact ⟨rfl, below_alloc _ _⟩

theorem refDecode_any (S : ByteArray) (w : World) (hS : S.size ≤ 4096) : Calls Tryz.prog 146 #[.string S] w fun x w' => L6.DecSaid (L6.decodeN S) w x w' := by
  by_cases h1 : 1007 < S.size ∨ ¬ ((L6.byteR S 0).1 = 1 ∨ (L6.byteR S 0).1 = 2) ∨ 1007 < (L6.shortR (L6.byteR S 0).2.1 (L6.byteR S 0).2.2).1
  · rw [L6.refDec_bad h1]
    exact L6.refDecode_bad S w hS h1
  · have ha : S.size ≤ 1007 := by omega
    have hc : (L6.shortR (L6.byteR S 0).2.1 (L6.byteR S 0).2.2).1 ≤ 1007 := by omega
    by_cases hb : (L6.byteR S 0).1 = 1
    · exact L6.refDecode_items S w ha hb hc
    · exact L6.refDecode_kids S w ha (by omega) hc
theorem openR_small (S : ByteArray) : (L4.openR S).2.2.1.size ≤ 4096 := by
  unfold L4.openR
  split
  · exact Nat.zero_le _
  · split
    · exact Nat.zero_le _
    · unfold L4.blockR
      split
      · rename_i h
        have := h.2.1
        show ByteArray.size _ ≤ _
        rw [ByteArray.size_extract]
        omega
      · exact Nat.zero_le _

set_option maxHeartbeats 4000000 in
set_option maxRecDepth 20000 in
theorem rhread_any (x : Int) (w : World) (H : RhAt w q r h a g fr kv) (hc : h.dk.op.length ≤ 1000000) :
    Calls Tryz.prog 104 #[.pointer (some ⟨q, 0, none⟩), .int .i64 x] w fun e w' => FetchSaid (fetchM h.dk x) w e w' := by
  have HP := hide (L6.Nblk.new w false none none 0 0 0 0)
  have hb1 := below_alloc w (.cells #[.bool false, .slice none 0 0, .slice none 0 0] 43)
  have HB := hide hb1
  have H1 := H.grow hb1
  have c0' := H1.cell0
  have HH := hide H1
  have HR := hide (Nat.le_refl w.heap.size)
  have HC := hide hc
  clear hb1 H H1 hc
  obtain ⟨P, hP⟩ : ∃ x, x = w.heap.size := ⟨_, rfl⟩
  go_enter Tryz.func104, Tryz.ntmps104
  go_wp2_with fail
  rw [← hP] at HP ⊢
  have HPE := hide hP
  have HRP : Hid (w.heap.size ≤ P) := Nat.le_of_eq hP.symm
  clear hP HR
  have HR := HRP
  clear HRP
  generalize w.alloc (.cells #[.bool false, .slice none 0 0, .slice none 0 0] 43) = w1 at *
  obtain ⟨ov, pv, hD, _⟩ := (unhide HH).dk
  refine (L3.rread_any x w1 hD (unhide HC)).mono ?_
  clear hD
  rintro e w2 ⟨rfl, hw2⟩
  rw [hw2]
  clear hw2 w2
  have hp2 := unhide HP
  have c0 := hp2.cell0
  have c1 := hp2.cell1
  have c2 := hp2.cell2
  have f0 := hp2.free 0
  have f1 := hp2.free 1
  have f2 := hp2.free 2
  have HP2 := hide hp2
  have HB2 := hide (unhide HB)
  clear hp2 HP HB HH HC
  by_cases hr : (L3.readM h.dk x).2 = 0
  · have hD : fetchM h.dk x = nodeOf (L3.readM h.dk x).1 := by unfold fetchM; rw [if_neg (fun hn => hn hr)]
    rw [hr]
    obtain ⟨S, hS⟩ : ∃ y, y = (L3.readM h.dk x).1 := ⟨_, rfl⟩
    rw [← hS] at hD ⊢
    have HDf := hide hD
    clear hD hr hS c0'
    go_wp2_with fail
    refine (L4.ropen_any S w1).mono ?_
    rintro e w3 ⟨rfl, hb3⟩
    unfold L4.opened
    have hsm := openR_small S
    generalize hO : L4.openR S = O at *
    obtain ⟨K, G, Y, eo⟩ := O
    simp only at hsm ⊢
    have hD : nodeOf S = if eo ≠ 0 then (L6.nd0, 0, 70) else if (L6.decodeN Y).2 ≠ 0 then (L6.nd0, 0, 70) else if K ≠ (kindN (L6.decodeN Y).1 : Int) then (L6.nd0, 0, 70) else ((L6.decodeN Y).1, G, 0) := by
      unfold nodeOf
      rw [hO]
    rw [← unhide HDf] at hD
    clear HDf
    have hp3 := (unhide HP2).below hb3
    have HSM := hide hsm
    clear c0 c1 c2 f0 f1 f2 hsm
    have HD := hide hD
    have hB4 := below_alloc w3 (.cells #[.int .i64 K, .int .i64 G, .string Y] 161)
    have HX4 := hide (L4.Box.new w3 (.int .i64 K) (.int .i64 G) (.string Y))
    have HB4 := hide (below_then (below_then (unhide HB2) hb3) hB4)
    have HP4 := hide (hp3.below hB4)
    have HPX := hide hp3.lt
    clear hO hD hb3 hp3 hB4 HB2 HP2
    go_wp2_with fail
    obtain ⟨X, hX⟩ : ∃ x, x = w3.heap.size := ⟨_, rfl⟩
    unfold L4.Box at HX4
    rw [← hX] at HX4 HPX ⊢
    clear hX
    generalize w3.alloc (.cells #[.int .i64 K, .int .i64 G, .string Y] 161) = w4 at *
    refine (refDecode_any Y w4 (unhide HSM)).mono ?_
    rintro e w5 ⟨ai, ak, ci, ck, rfl, hh5, hb5⟩
    obtain ⟨hbx, b0, b1, b2⟩ := unhide HX4
    have hlx : X < w4.heap.size := World.block_lt_of_cell? _ _ b0
    have y0 := (hb5.cell (p := ⟨X, 0, none⟩) hlx).trans b0
    have y1 := (hb5.cell (p := ⟨X, 1, none⟩) hlx).trans b1
    clear hbx b0 b1 b2 HX4 hlx
    have hp5 := (unhide HP4).below hb5
    have HB5 := hide (below_then (unhide HB4) hb5)
    clear hb5 HP4 HB4
    generalize L6.decodeN Y = DN at *
    obtain ⟨n, ed⟩ := DN
    simp only at hh5 HD ⊢
    have hN := L6.Nblk.new w5 n.leaf ai ak n.its.length ci n.kds.length ck
    have hb6 := below_alloc w5 (.cells #[.bool n.leaf, .slice ai n.its.length ci, .slice ak n.kds.length ck] 43)
    have HH6 := hide (hh5.grow hb6)
    have hp6 := hp5.below hb6
    have HB6 := hide (below_then (unhide HB5) hb6)
    have z0 := (hb6.cell (World.block_lt_of_cell? _ _ y0)).trans y0
    have z1 := (hb6.cell (World.block_lt_of_cell? _ _ y1)).trans y1
    have x0 := hN.cell0
    have x1 := hN.cell1
    have x2 := hN.cell2
    have HP6 := hide hp6
    clear hh5 hN hb6 hp6 hp5 HB5 y0 y1
    obtain ⟨Q, hQ⟩ : ∃ x, x = w5.heap.size := ⟨_, rfl⟩
    go_wp2_with fail
    rw [← hQ] at x0 x1 x2 ⊢
    clear hQ
    generalize w5.alloc (.cells #[.bool n.leaf, .slice ai n.its.length ci, .slice ak n.kds.length ck] 43) = w6 at *
    by_cases heo : eo = 0
    · subst heo
      by_cases hd : ed = 0
      · subst hd
        have HD2 : Hid (fetchM h.dk x = if K ≠ (kindN n : Int) then (L6.nd0, 0, 70) else (n, G, 0)) := by
          have := unhide HD
          rw [if_neg (by simp), if_neg (by simp)] at this
          exact this
        clear HD
        obtain ⟨KN, hKN⟩ : ∃ x : Int, x = (if n.leaf then 1 else 2) := ⟨_, rfl⟩
        have HKN := hide hKN
        have hKe : (kindN n : Int) = KN := by rw [hKN]; unfold kindN; split <;> rfl
        have HKE := hide hKe
        clear hKN hKe
        by_cases hK : K = KN
        · have HD : Hid (fetchM h.dk x = (n, G, 0)) := by
            have := unhide HD2
            rw [if_neg (fun hn => hn (by rw [unhide HKE]; exact hK))] at this
            exact this
          clear HD2
          have hK1 : (K == KN) = true := by rw [hK]; simp
          have hK2 : (K != KN) = false := by rw [hK]; simp
          clear hK
          go_region_held3 (fun w' => w'.cell? ⟨X, 0, none⟩ = some (.int .i64 K) ∧ w'.cell? ⟨Q, 0, none⟩ = some (.bool n.leaf) ∧ w'.cell? ⟨Q, 1, none⟩ = some (.slice ai n.its.length ci) ∧ w'.cell? ⟨Q, 2, none⟩ = some (.slice ak n.kds.length ck))
            (first | assumption | exact ⟨z0, x0, x1, x2⟩ | exact ⟨k0, m0, m1, m2⟩)
            (first
              | (go_at_call 96; go_split_ands; refine (rkind_any n.leaf _ _ _).mono ?_; rintro e w7 ⟨rfl, hb7⟩; rw [← unhide HKN]; have k0 := (hb7.cell (World.block_lt_of_cell? _ _ (show w6.drew.cell? _ = _ from z0))).trans z0; have m0 := (hb7.cell (World.block_lt_of_cell? _ _ (show w6.drew.cell? _ = _ from x0))).trans x0; have m1 := (hb7.cell (World.block_lt_of_cell? _ _ (show w6.drew.cell? _ = _ from x1))).trans x1; have m2 := (hb7.cell (World.block_lt_of_cell? _ _ (show w6.drew.cell? _ = _ from x2))).trans x2; have HB7 := hide (below_then (below_drew w6) hb7); clear hb7))
          have hp7 := (unhide HP6).below (unhide HB7)
          have c0 := hp7.cell0
          have c1 := hp7.cell1
          have c2 := hp7.cell2
          have f0 := hp7.free 0
          have f1 := hp7.free 1
          have f2 := hp7.free 2
          have HP7 := hide hp7
          have HH7 := hide ((unhide HH6).grow (unhide HB7))
          have HB8 := hide (below_then (unhide HB6) (unhide HB7))
          have u1 := ((unhide HB7).cell (World.block_lt_of_cell? _ _ z1)).trans z1
          clear hp7 z0 z1 x0 x1 x2
          have hne : X ≠ P := by have := unhide HPX; omega
          have hne' : P ≠ X := fun e => hne e.symm
          go_wp2_with fail
          go_region
          go_wp2
          have hst := (unhide HP7).store n.leaf ai n.its.length ci ak n.kds.length ck (unhide HH7)
          refine bodyPost_ret (v := .tuple #[.agg #[.bool n.leaf, .slice ai n.its.length ci, .slice ak n.kds.length ck], .int .i64 G, .int .i64 0]) ?_ rfl ?_
          · rw [results_cell_tmp2 rfl]
            go_simp
          · rw [unhide HD]
            exact ⟨ai, ak, ci, ck, rfl, hst.2.grow (below_drew _), (L6.below_store (L6.below_store (L6.below_store (unhide HB8) P 0 _ (unhide HR)) P 1 _ (unhide HR)) P 2 _ (unhide HR)).drew⟩
        · have HD : Hid (fetchM h.dk x = (L6.nd0, 0, 70)) := by
            have := unhide HD2
            rw [if_pos (fun hn => hK (by rw [← unhide HKE]; exact hn))] at this
            exact this
          have hK1 : (K == KN) = false := beq_eq_false_iff_ne.2 hK
          have hK2 : (K != KN) = true := bne_iff_ne.2 hK
          clear HD2 hK
          go_region_held3 (fun w' => w'.cell? ⟨X, 0, none⟩ = some (.int .i64 K) ∧ w'.cell? ⟨Q, 0, none⟩ = some (.bool n.leaf) ∧ w'.cell? ⟨Q, 1, none⟩ = some (.slice ai n.its.length ci) ∧ w'.cell? ⟨Q, 2, none⟩ = some (.slice ak n.kds.length ck))
            (first | assumption | exact ⟨z0, x0, x1, x2⟩ | exact ⟨k0, m0, m1, m2⟩)
            (first
              | (go_at_call 96; go_split_ands; refine (rkind_any n.leaf _ _ _).mono ?_; rintro e w7 ⟨rfl, hb7⟩; rw [← unhide HKN]; have k0 := (hb7.cell (World.block_lt_of_cell? _ _ (show w6.drew.cell? _ = _ from z0))).trans z0; have m0 := (hb7.cell (World.block_lt_of_cell? _ _ (show w6.drew.cell? _ = _ from x0))).trans x0; have m1 := (hb7.cell (World.block_lt_of_cell? _ _ (show w6.drew.cell? _ = _ from x1))).trans x1; have m2 := (hb7.cell (World.block_lt_of_cell? _ _ (show w6.drew.cell? _ = _ from x2))).trans x2; have HB7 := hide (below_then (below_drew w6) hb7); clear hb7))
          have hp7 := (unhide HP6).below (unhide HB7)
          have c0 := hp7.cell0
          have c1 := hp7.cell1
          have c2 := hp7.cell2
          have f0 := hp7.free 0
          have f1 := hp7.free 1
          have f2 := hp7.free 2
          have HP7 := hide hp7
          have HH7 := hide ((unhide HH6).grow (unhide HB7))
          have HB8 := hide (below_then (unhide HB6) (unhide HB7))
          have u1 := ((unhide HB7).cell (World.block_lt_of_cell? _ _ z1)).trans z1
          clear hp7 z0 z1 x0 x1 x2
          go_wp2
          have hst := (unhide HP7).store false none 0 0 none 0 0 (m := L6.nd0) (bi := none) (bk := none) ⟨.inl rfl, .inl rfl⟩
          refine bodyPost_ret (v := .tuple #[.agg #[.bool false, .slice none 0 0, .slice none 0 0], .int .i64 0, .int .i64 70]) ?_ rfl ?_
          · rw [results_cell_tmp2 rfl]
            go_simp
          · rw [unhide HD]
            exact ⟨none, none, 0, 0, rfl, hst.2, L6.below_store (L6.below_store (L6.below_store (unhide HB8) P 0 _ (unhide HR)) P 1 _ (unhide HR)) P 2 _ (unhide HR)⟩
      · have hd1 : ((ed : Int) == 0) = false := beq_eq_false_iff_ne.2 (by omega)
        have hd2 : ((ed : Int) != 0) = true := bne_iff_ne.2 (by omega)
        have HD2 : Hid (fetchM h.dk x = (L6.nd0, 0, 70)) := by
          have := unhide HD
          rw [if_neg (by simp), if_pos hd] at this
          exact this
        clear HD hd
        have HD := HD2
        clear HD2
        go_quiet (fail)
        rename_i nq
        have hp7 : L6.Nblk (w6.drewN nq) P false none 0 0 none 0 0 := unhide HP6
        have c0 := hp7.cell0
        have c1 := hp7.cell1
        have c2 := hp7.cell2
        have f0 := hp7.free 0
        have f1 := hp7.free 1
        have f2 := hp7.free 2
        have HP7 := hide hp7
        have HB8 : Hid (Below w.heap.size w (w6.drewN nq)) := below_then (unhide HB6) ⟨rfl, rfl, rfl, Nat.le_refl _, fun _ _ => rfl⟩
        clear hp7 z0 z1 x0 x1 x2
        go_wp2
        have hst := (unhide HP7).store false none 0 0 none 0 0 (m := L6.nd0) (bi := none) (bk := none) ⟨.inl rfl, .inl rfl⟩
        refine bodyPost_ret (v := .tuple #[.agg #[.bool false, .slice none 0 0, .slice none 0 0], .int .i64 0, .int .i64 70]) ?_ rfl ?_
        · rw [results_cell_tmp2 rfl]
          go_simp
        · rw [unhide HD]
          exact ⟨none, none, 0, 0, rfl, hst.2, L6.below_store (L6.below_store (L6.below_store (unhide HB8) P 0 _ (unhide HR)) P 1 _ (unhide HR)) P 2 _ (unhide HR)⟩
    · have hd1 : ((eo : Int) == 0) = false := beq_eq_false_iff_ne.2 (by omega)
      have hd2 : ((eo : Int) != 0) = true := bne_iff_ne.2 (by omega)
      have HD2 : Hid (fetchM h.dk x = (L6.nd0, 0, 70)) := by
        have := unhide HD
        rw [if_pos heo] at this
        exact this
      clear HD heo
      have HD := HD2
      clear HD2
      go_quiet (fail)
      rename_i nq
      have hp7 : L6.Nblk (w6.drewN nq) P false none 0 0 none 0 0 := unhide HP6
      have c0 := hp7.cell0
      have c1 := hp7.cell1
      have c2 := hp7.cell2
      have f0 := hp7.free 0
      have f1 := hp7.free 1
      have f2 := hp7.free 2
      have HP7 := hide hp7
      have HB8 : Hid (Below w.heap.size w (w6.drewN nq)) := below_then (unhide HB6) ⟨rfl, rfl, rfl, Nat.le_refl _, fun _ _ => rfl⟩
      clear hp7 z0 z1 x0 x1 x2
      go_wp2
      have hst := (unhide HP7).store false none 0 0 none 0 0 (m := L6.nd0) (bi := none) (bk := none) ⟨.inl rfl, .inl rfl⟩
      refine bodyPost_ret (v := .tuple #[.agg #[.bool false, .slice none 0 0, .slice none 0 0], .int .i64 0, .int .i64 70]) ?_ rfl ?_
      · rw [results_cell_tmp2 rfl]
        go_simp
      · rw [unhide HD]
        exact ⟨none, none, 0, 0, rfl, hst.2, L6.below_store (L6.below_store (L6.below_store (unhide HB8) P 0 _ (unhide HR)) P 1 _ (unhide HR)) P 2 _ (unhide HR)⟩
  · have hD : fetchM h.dk x = (L6.nd0, 0, (L3.readM h.dk x).2) := by unfold fetchM; rw [if_pos hr]
    obtain ⟨E, hE⟩ : ∃ y, y = (L3.readM h.dk x).2 := ⟨_, rfl⟩
    rw [← hE] at hD hr ⊢
    have HD := hide hD
    clear hE
    have hr1 : (E == 0) = false := beq_eq_false_iff_ne.2 hr
    have hr2 : (E != 0) = true := bne_iff_ne.2 hr
    clear hD hr
    go_wp2
    have hst := (unhide HP2).store false none 0 0 none 0 0 (m := L6.nd0) (bi := none) (bk := none) ⟨.inl rfl, .inl rfl⟩
    refine bodyPost_ret (v := .tuple #[.agg #[.bool false, .slice none 0 0, .slice none 0 0], .int .i64 0, .int .i64 E]) ?_ rfl ?_
    · rw [results_cell_tmp2 rfl]
      go_simp
    · rw [unhide HD]
      exact ⟨none, none, 0, 0, rfl, hst.2, L6.below_store (L6.below_store (L6.below_store (unhide HB2) P 0 _ (unhide HR)) P 1 _ (unhide HR)) P 2 _ (unhide HR)⟩

set_option maxHeartbeats 2000000 in
set_option maxRecDepth 20000 in
theorem rhget_any (x : Int) (hx : L5.I64 x) (w : World) (H : IsRh w q h F) (hc : h.dk.op.length ≤ 1000000) :
    Calls Tryz.prog 53 #[.pointer (some ⟨q, 0, none⟩), .int .i64 x] w fun e w' => GetSaid (getR h x) w e w' := by
  obtain ⟨r, a, g, fr, kv, H, rfl⟩ := H
  have HP := hide (L6.Nblk.new w false none none 0 0 0 0)
  have hb0 := below_alloc w (.cells #[.bool false, .slice none 0 0, .slice none 0 0] 43)
  have H0 := H.grow hb0
  have c1 := H0.cell1
  have HH := hide H0
  have HB := hide hb0
  have HQ := hide hx
  have HC := hide hc
  clear H H0 hb0 hx hc
  by_cases hz : cntL h.al x = 0
  · have hz' : ((L5.cntS (L5.sec 2 h.al x) : Nat) : Int) = 0 := by have : L5.cntS (L5.sec 2 h.al x) = 0 := hz; omega
    have hD : getR h x = (L6.nd0, 51) := by unfold getR; exact if_pos hz
    have HD := hide hD
    clear hz hD
    have hp2 := unhide HP
    go_enter Tryz.func53, Tryz.ntmps53
    go_wp2_with (go_at_call 63; refine (L5.rcount_any x (unhide HQ) _ (unhide HH).al).mono ?_; rintro e w1 ⟨rfl, hb1⟩; rw [hz']; have hp3 := (unhide HP).below hb1; have d0 := hp3.cell0; have d1 := hp3.cell1; have d2 := hp3.cell2; have f0 := hp3.free 0; have f1 := hp3.free 1; have f2 := hp3.free 2; have HP3 := hide hp3; have HB1 := hide (below_then (unhide HB) hb1); clear hb1 hp3)
    have hst := (unhide HP3).store false none 0 0 none 0 0 (m := L6.nd0) (bi := none) (bk := none) ⟨.inl rfl, .inl rfl⟩
    refine bodyPost_ret (v := .tuple #[.agg #[.bool false, .slice none 0 0, .slice none 0 0], .int .i64 51]) ?_ rfl ?_
    · rw [results_cell_tmp rfl]
      go_simp
    · rw [unhide HD]
      exact ⟨none, none, 0, 0, rfl, ⟨.inl rfl, .inl rfl⟩, L6.below_store (L6.below_store (L6.below_store (unhide HB1) w.heap.size 0 _ (Nat.le_refl _)) w.heap.size 1 _ (Nat.le_refl _)) w.heap.size 2 _ (Nat.le_refl _)⟩
  · have hz' : (((L5.cntS (L5.sec 2 h.al x) : Nat) : Int) == 0) = false := beq_eq_false_iff_ne.2 (by have : ¬ L5.cntS (L5.sec 2 h.al x) = 0 := hz; omega)
    have hD : getR h x = ((fetchM h.dk x).1, (fetchM h.dk x).2.2) := by unfold getR; exact if_neg hz
    have HD := hide hD
    obtain ⟨C, hC⟩ : ∃ y, y = ((L5.cntS (L5.sec 2 h.al x) : Nat) : Int) := ⟨_, rfl⟩
    rw [← hC] at hz'
    have HCE := hide hC
    clear hz hD hC
    obtain ⟨P, hP⟩ : ∃ x, x = w.heap.size := ⟨_, rfl⟩
    go_enter Tryz.func53, Tryz.ntmps53
    go_wp2_with (first
      | (go_at_call 63; refine (L5.rcount_any x (unhide HQ) _ (unhide HH).al).mono ?_; rintro e w1 ⟨rfl, hb1⟩; rw [← unhide HCE]; have HB1 := hide hb1; clear hb1))
    rw [← hP] at HP ⊢
    have HPE := hide hP
    clear hP
    refine (rhread_any x w1 ((unhide HH).grow (unhide HB1)) (unhide HC)).mono ?_
    rintro e w2 ⟨ai, ak, ci, ck, rfl, hh2, hb2⟩
    have hp2 := ((unhide HP).below (unhide HB1)).below hb2
    have HB2 := hide (below_then (below_then (unhide HB) (unhide HB1)) hb2)
    generalize fetchM h.dk x = T at *
    obtain ⟨n, G, E⟩ := T
    simp only at hh2 HD ⊢
    have hN := L6.Nblk.new w2 n.leaf ai ak n.its.length ci n.kds.length ck
    have hb3 := below_alloc w2 (.cells #[.bool n.leaf, .slice ai n.its.length ci, .slice ak n.kds.length ck] 43)
    have hp3 := hp2.below hb3
    have HH3 := hide (hh2.grow hb3)
    have HB3 := hide (below_then (unhide HB2) hb3)
    have x0 := hN.cell0
    have x1 := hN.cell1
    have x2 := hN.cell2
    have z0 := hp3.cell0
    have z1 := hp3.cell1
    have z2 := hp3.cell2
    have f0 := hp3.free 0
    have f1 := hp3.free 1
    have f2 := hp3.free 2
    have HP3 := hide hp3
    clear c1 hb2 hp2 hh2 hN hb3 hp3
    go_wp2
    have hst := (unhide HP3).store n.leaf ai n.its.length ci ak n.kds.length ck (unhide HH3)
    refine bodyPost_ret (v := .tuple #[.agg #[.bool n.leaf, .slice ai n.its.length ci, .slice ak n.kds.length ck], .int .i64 E]) ?_ rfl ?_
    · rw [results_cell_tmp rfl]
      go_simp
    · rw [unhide HD]
      have hR : w.heap.size ≤ P := Nat.le_of_eq (unhide HPE).symm
      exact ⟨ai, ak, ci, ck, rfl, hst.2, L6.below_store (L6.below_store (L6.below_store (unhide HB3) P 0 _ hR) P 1 _ hR) P 2 _ hR⟩

set_option maxHeartbeats 1000000 in
set_option maxRecDepth 20000 in
theorem rhhold_any (n : Int) (hn : L5.I64 n) (w : World) (H : IsRh w q h F) :
    Calls Tryz.prog 56 #[.pointer (some ⟨q, 0, none⟩), .int .i64 n] w fun e w' => e = .returned (.int .i64 (L5.holdE 2 h.al n)) ∧ RhTurned w w' q (holdR h n) F := by
  obtain ⟨r, a, g, fr, kv, H, rfl⟩ := H
  have c1 := H.cell1
  have HH := hide H
  have HN := hide hn
  clear H hn
  go_enter Tryz.func56, Tryz.ntmps56
  go_wp2_with (go_at_call 99; refine (L5.rhold_any n _ (unhide HH).al (unhide HN)).mono ?_; rintro e w1 ⟨rfl, ha, hm⟩; have HX := hide (And.intro ha hm); clear ha hm)
  go_ret
  obtain ⟨ha, hm⟩ := unhide HX
  exact ⟨rfl, (unhide HH).turnA hm ha (length_hold _ _)⟩

set_option maxHeartbeats 1000000 in
set_option maxRecDepth 20000 in
theorem rhsettle_any (w : World) (H : IsRh w q h F) :
    Calls Tryz.prog 58 #[.pointer (some ⟨q, 0, none⟩)] w fun e w' => e = .returned (.int .i64 (settleE h)) ∧ RhTurned w w' q (settleM h) F := by
  obtain ⟨r, a, g, fr, kv, H, rfl⟩ := H
  have c1 := H.cell1
  have c2 := H.cell2
  by_cases hg : h.gen = 1152921504606846976
  · have e1 : settleE h = 52 := by unfold settleE; exact if_pos hg
    have e2 : settleM h = h := by unfold settleM; exact if_pos hg
    have HE := hide (And.intro e1 e2)
    have HH := hide H
    rw [hg] at c2
    clear H e1 e2 hg
    go_enter Tryz.func58, Tryz.ntmps58
    go_wp2
    go_ret
    rw [(unhide HE).1, (unhide HE).2]
    exact ⟨rfl, IsRh.stays ⟨r, a, g, fr, kv, unhide HH, rfl⟩ (Below.refl _ _)⟩
  · have e1 : settleE h = 0 := by unfold settleE; exact if_neg hg
    have e2 : settleM h = { h with al := L5.freeM h.al h.gen, gen := h.gen + 1 } := by unfold settleM; exact if_neg hg
    have hg' : (h.gen == 1152921504606846976) = false := beq_eq_false_iff_ne.2 hg
    have HE := hide (And.intro e1 e2)
    have HH := hide H
    have hgb := H.gen
    have hw : IntKind.i64.wrap (h.gen + 1) = h.gen + 1 := by rw [IntKind.wrap_i64]; omega
    have HGB : Hid (0 ≤ h.gen + 1 ∧ h.gen + 1 ≤ 1152921504606846976) := ⟨by omega, by omega⟩
    clear H e1 e2 hg hgb
    obtain ⟨G, hG⟩ : ∃ x, x = h.gen := ⟨_, rfl⟩
    rw [← hG] at c2 hg' hw
    have HG := hide hG
    clear hG
    go_enter Tryz.func58, Tryz.ntmps58
    go_wp2_with fail
    have HHd : Hid (RhAt w.drew q r h a g fr kv) := (unhide HH).grow (below_drew w)
    go_region_held3 (fun w' => w'.cell? ⟨q, 1, none⟩ = some (.pointer (some ⟨a, 0, none⟩)) ∧ w'.cell? ⟨q, 2, none⟩ = some (.int .i64 G))
      (first | assumption | exact ⟨c1, c2⟩ | exact ⟨d1, d2⟩)
      (first
        | (go_at_call 105; go_split_ands; refine (L5.rfree_any G _ (unhide HHd).al).mono ?_; rintro e w1 ⟨rfl, ha, hm⟩; have H1 := (unhide HHd).alloc hm ha (length_free _ _); have d1 := H1.cell1; have d2 : w1.cell? ⟨q, 2, none⟩ = some (.int .i64 G) := Eq.trans H1.cell2 (congrArg (fun y : Int => some (Value.int .i64 y)) (unhide HG).symm); have HH1 := hide H1; have HM1 := hide hm; clear ha hm H1))
    have f2 := (unhide HH1).free 2
    clear c1 c2 d1
    go_wp2
    go_ret
    rw [(unhide HE).1, (unhide HE).2]
    have h2 := (unhide HH1).setG (unhide HGB)
    have hG := unhide HG
    subst hG
    refine ⟨rfl, _, ⟨r, a, g, fr, kv, h2, rfl⟩, ?_, fun _ hx => .inl hx⟩
    exact ((L5.Moves.of_below _ (below_drew w)).then ((unhide HM1).mono (fun x hx => .inl (by simp at hx; simp [rfoot, hx])))).then (L5.Moves.set _ _ _ _ (by simp [rfoot]))
end Go.Proofs.YtlmgmdnmghgkbaaGreatDoor

/- The document's heap: kidsOf. -/
namespace Go.Proofs.YtlmgmdnmghgkbaaGreatDoor
open Go.ChangeShapes Go.WideShapes Go.ChangeAt Go.RowKit

set_option maxHeartbeats 2000000 in
set_option maxRecDepth 20000 in
theorem rkids_any (n : L6.Nd) (ai ak : Option Addr) (ci ck : Nat) (w : World) (hn : L6.Has w n ai ak) (hl : n.kds.length ≤ 1100) :
    Calls Tryz.prog 93 #[.agg #[.bool n.leaf, .slice ai n.its.length ci, .slice ak n.kds.length ck]] w fun e w' => ∃ v, e = .returned v ∧ Ints w' v (places n) ∧ (∀ g, v.ownBlock = some g → w.heap.size ≤ g) ∧ Below w.heap.size w w' := by
  have hb0 := below_alloc w (.cells #[.bool n.leaf, .slice ai n.its.length ci, .slice ak n.kds.length ck] 43)
  have q2 : (w.alloc (.cells #[.bool n.leaf, .slice ai n.its.length ci, .slice ak n.kds.length ck] 43)).cell? ⟨w.heap.size, 2, none⟩ = some (.slice ak n.kds.length ck) := by simp
  have HK := hide (hn.grow hb0).2
  have HB0 := hide hb0
  have HL := hide hl
  have HPL : Hid (places n = n.kds.map (fun x => x.2)) := rfl
  clear hn hl hb0
  obtain ⟨P, hP⟩ : ∃ x, x = w.heap.size := ⟨_, rfl⟩
  go_enter Tryz.func93, Tryz.ntmps93
  go_wp2
  rw [← hP] at q2 ⊢
  have HP := hide hP
  clear hP
  generalize w.alloc (.cells #[.bool n.leaf, .slice ai n.its.length ci, .slice ak n.kds.length ck] 43) = w0 at *
  have HQ2 := hide q2
  clear q2
  generalize n.kds = kds at *
  go_loopw [3, 4] (fun s t wr => ∃ (k : Nat) (v : Value), v = s ∧ k ≤ kds.length ∧ t = .int .i64 (k : Int) ∧ Ints wr v ((kds.take k).map (fun x => x.2)) ∧ (∀ g, v.ownBlock = some g → w0.heap.size ≤ g) ∧ Below w0.heap.size w0 wr) (fun s t _ => kds.length - (intOf t).toNat)
  case atStart => exact ⟨0, _, rfl, Nat.zero_le _, rfl, by simpa using Ints.nil _, (fun g hg => by cases hg), Below.refl _ _⟩
  case round =>
    obtain ⟨k, v, rfl, hk, rfl, hI, hg, hb⟩ := hrel
    have c2 := (hb.cell (World.block_lt_of_cell? _ _ (unhide HQ2))).trans (unhide HQ2)
    have HI := hide hI
    have HG := hide hg
    have HB := hide hb
    clear hI hg hb
    by_cases hlt : k < kds.length
    · obtain ⟨b, off, rfl, hr⟩ := ((unhide HK).grow (unhide HB)).at hlt
      obtain ⟨⟨key, pl⟩, hx⟩ := L6.get_some hlt
      obtain ⟨c0, c1⟩ := hr k _ hx
      simp only at c0 c1
      have HX := hide hx
      clear hr hx
      have hlen : ((kds.take k).map (fun x : L6.Kd => x.2)).length = k := by rw [List.length_map, List.length_take]; omega
      have HOw : Hid (wr.ownsRow 0 3 1 v k (((kds.take k).map (fun x : L6.Kd => x.2)).map intV)) := by
        have h1 : Ints _ _ _ := unhide HI
        unfold Ints at h1
        rw [hlen] at h1
        exact h1
      have HLN := hide hlen
      clear hlen
      have hL1 := unhide HL
      have hlt' : (k : Int) < (kds.length : Int) := by omega
      go_wp2_with (first
        | (at_builtin; refine L3.app_gen (wr := wr) (v := v) (n := k) (xs := ((kds.take k).map (fun x : L6.Kd => x.2)).map intV) (news := [.int .i64 pl]) Tryz.underlying39 info3 rfl (by decide) rfl _ _ rfl rfl rfl (unhide HOw) (Nat.zero_le _) rfl (by intro u hu; simp at hu; subst hu; rfl) (by have := unhide HL; omega) (by have := unhide HL; omega) ?_; intro a5 cap5 w5 hown5 hg5 hloc; have HY := hide (And.intro hown5 (And.intro hg5 hloc)); clear hown5 hg5 hloc)
        | go_in)
      go_roundw
      case rel =>
        obtain ⟨hown5, hg5, hloc⟩ := unhide HY
        have e1 : kds.take (k + 1) = kds.take k ++ [(key, pl)] := by rw [List.take_add_one, unhide HX]; rfl
        refine ⟨k + 1, _, rfl, by omega, by go_num, ?_, fun g hg => ?_, ?_⟩
        · unfold Ints
          rw [e1, List.map_append, List.length_append, unhide HLN, List.map_append]
          exact hown5
        · rcases hloc with e | ⟨g', e, hg'⟩
          · rw [e] at hg
            exact unhide HG g hg
          · rw [e] at hg
            cases hg
            exact Nat.le_trans (unhide HB).size hg'
        · have hb := unhide HB
          exact hb.grown hg5 hb.size (fun g hg => unhide HG g hg)
      case measure => simp [intOf]; omega
    · obtain rfl : k = kds.length := by omega
      rw [List.take_length] at HI
      have hlt' : ¬ (kds.length : Int) < (kds.length : Int) := by omega
      go_wp2
      go_ret
      refine ⟨_, rfl, ?_, fun g hg => Nat.le_trans (unhide HB0).size (unhide HG g hg), below_then (unhide HB0) (unhide HB)⟩
      rw [unhide HPL]
      exact unhide HI
end Go.Proofs.YtlmgmdnmghgkbaaGreatDoor

/- What the document's Wrap does: the same. -/
namespace Go.Proofs.YtlmgmdnmghgkbaaGreatDoor.L4
open Go.ChangeShapes Go.WideShapes Go.ChangeAt Go.RowKit

set_option maxHeartbeats 400000 in
theorem rwrap_arg (K G : Int) (P : ByteArray) (w : World) (h : K < 0 ∨ 255 < K ∨ G < 0 ∨ 1152921504606846976 < G) :
    Calls Tryz.prog 95 #[.agg #[.int .i64 K, .int .i64 G, .string P]] w fun e w' => e = .returned (.tuple #[.string ⟨#[]⟩, .int .i64 1]) ∧ Below w.heap.size w w' := by
  by_cases h1 : K < 0
  · clear h
    go_enter Tryz.func95, Tryz.ntmps95
    go_wp2
    go_ret2
    exact ⟨rfl, (Below.refl _ _).alloc (Nat.le_refl _) _⟩
  · by_cases h2 : 255 < K
    · clear h
      go_enter Tryz.func95, Tryz.ntmps95
      go_wp2
      go_ret2
      exact ⟨rfl, (Below.refl _ _).alloc (Nat.le_refl _) _⟩
    · by_cases h3 : G < 0
      · clear h
        go_enter Tryz.func95, Tryz.ntmps95
        go_wp2
        go_ret2
        exact ⟨rfl, (Below.refl _ _).alloc (Nat.le_refl _) _⟩
      · have h4 : 1152921504606846976 < G := by omega
        clear h
        go_enter Tryz.func95, Tryz.ntmps95
        go_wp2
        go_ret2
        exact ⟨rfl, (Below.refl _ _).alloc (Nat.le_refl _) _⟩

set_option maxHeartbeats 400000 in
theorem rwrap_big (K G : Int) (P : ByteArray) (w : World) (h : ¬ (K < 0 ∨ 255 < K ∨ G < 0 ∨ 1152921504606846976 < G)) (hp : 1007 < P.size) :
    Calls Tryz.prog 95 #[.agg #[.int .i64 K, .int .i64 G, .string P]] w fun e w' => e = .returned (.tuple #[.string ⟨#[]⟩, .int .i64 61]) ∧ Below w.heap.size w w' := by
  have h1 : ¬ K < 0 := by omega
  have h2 : ¬ 255 < K := by omega
  have h3 : ¬ G < 0 := by omega
  have h4 : ¬ 1152921504606846976 < G := by omega
  clear h
  go_enter Tryz.func95, Tryz.ntmps95
  go_wp2
  go_ret2
  exact ⟨rfl, (Below.refl _ _).alloc (Nat.le_refl _) _⟩
set_option maxRecDepth 10000 in
set_option maxHeartbeats 4000000 in
theorem rwrap_ok (k g : Nat) (P : ByteArray) (w : World) (hT : Tab w) (hk : k ≤ 255) (hg : g ≤ 1152921504606846976) (hp : P.size ≤ 1007) :
    Calls Tryz.prog 95 #[.agg #[.int .i64 (k : Int), .int .i64 (g : Int), .string P]] w fun e w' => e = .returned (.tuple #[.string (strOf (Blk.sector k g (bn P))), .int .i64 0]) ∧ Below w.heap.size w w' := by
  have HT := hide hT
  clear hT
  have h4 : ¬ (1152921504606846976 : Int) < (g : Int) := by omega
  have v1 : IntKind.u64.wrap (g : Int) = (g : Int) := by rw [IntKind.wrap_u64]; omega
  have v2 : IntKind.u8.wrap (k : Int) = (k : Int) := by rw [IntKind.wrap_u8]; omega
  have v3 : IntKind.u8.wrap ((P.size : Int) / 256) = (P.size : Int) / 256 := by rw [IntKind.wrap_u8]; omega
  have v4 : IntKind.u8.wrap (P.size : Int) = (P.size : Int) % 256 := by rw [IntKind.wrap_u8]
  have hcv := three_conv
  have hcv2 := three_conv_drew
  have hF := fun W => refFixed_any (g : Int) W (by omega)
  rw [Int.toNat_natCast] at hF
  have HF := hide hF
  clear hF
  go_enter Tryz.func95, Tryz.ntmps95
  go_wp2_with fail
  have HX := Box.new w (.int .i64 (k : Int)) (.int .i64 (g : Int)) (.string P)
  generalize w.alloc (.cells #[.int .i64 (k : Int), .int .i64 (g : Int), .string P] 161) = w1 at *
  have r1 := add_run ⟨#[67, 80]⟩
  have r5 := add_run (⟨#[67, 80]⟩ ++ strOfNums [(k : Int), (P.size : Int) / 256, (P.size : Int) % 256] ++ strOf (Pk.fixL g)) P (by rw [text_size]; omega)
  have r2 := add_run (⟨#[67, 80]⟩ ++ strOfNums [(k : Int), (P.size : Int) / 256, (P.size : Int) % 256]) (strOf (Pk.fixL g)) (by rw [ByteArray.size_append, strOfNums_size, strOf_size]; show 2 + 3 + 8 ≤ 1000000; decide)
  have z3 : ∀ a b c : Int, (strOfNums [a, b, c]).size = 3 := fun a b c => by rw [strOfNums_size]; rfl
  refine wp_region_noPanic ?_
  refine wp_region_held_drew (S := fun w' => Below w.heap.size w w' ∧ w'.cell? ⟨w.heap.size, 0, none⟩ = some (.int .i64 (k : Int)) ∧ w'.cell? ⟨w.heap.size, 1, none⟩ = some (.int .i64 (g : Int)) ∧ w'.cell? ⟨w.heap.size, 2, none⟩ = some (.string P)) (by kernel_rfl) HX.drew (fun hHeld => ?_)
  refine takeY 0 (some 32) ?_ rfl rfl (by kernel_rfl) (by kernel_rfl) (by kernel_rfl) (fun _ _ _ h => h) (by rfl) ?_ hHeld ?_
  rotate_left
  · intro w hSw; go_simp <;> with_reducible rfl
  simp only [Act.put, List.setIfInBounds_toArray, List.set_cons_zero, List.set_cons_succ]
  refine takeY 1 (some 33) ?_ rfl rfl (by kernel_rfl) (by kernel_rfl) (by kernel_rfl) (fun _ _ _ h => h) (by rfl) ?_ hHeld ?_
  rotate_left
  · intro w hSw; go_simp <;> with_reducible rfl
  simp only [Act.put, List.setIfInBounds_toArray, List.set_cons_zero, List.set_cons_succ]
  refine takeY 2 (some 34) ?_ rfl rfl (by kernel_rfl) (by kernel_rfl) (by kernel_rfl) (fun _ _ _ h => h) (by rfl) ?_ hHeld ?_
  rotate_left
  · intro w hSw; go_simp <;> with_reducible rfl
  simp only [Act.put, List.setIfInBounds_toArray, List.set_cons_zero, List.set_cons_succ]
  refine takeY 3 (some 35) ?_ rfl rfl (by kernel_rfl) (by kernel_rfl) (by kernel_rfl) (fun _ _ _ h => h) (by rfl) ?_ hHeld ?_
  rotate_left
  · intro w hSw; go_simp <;> with_reducible rfl
  simp only [Act.put, List.setIfInBounds_toArray, List.set_cons_zero, List.set_cons_succ]
  refine takeY 4 (some 36) ?_ rfl rfl (by kernel_rfl) (by kernel_rfl) (by kernel_rfl) (fun _ _ _ h => h) (by rfl) ?_ hHeld ?_
  rotate_left
  · intro w hSw; go_simp <;> with_reducible rfl
  simp only [Act.put, List.setIfInBounds_toArray, List.set_cons_zero, List.set_cons_succ]
  refine takeY 5 (some 37) ?_ rfl rfl (by kernel_rfl) (by kernel_rfl) (by kernel_rfl) (fun _ _ _ h => h) (by rfl) ?_ hHeld ?_
  rotate_left
  · intro w hSw; go_simp <;> with_reducible rfl
  simp only [Act.put, List.setIfInBounds_toArray, List.set_cons_zero, List.set_cons_succ]
  refine takeY 6 (some 38) ?_ rfl rfl (by kernel_rfl) (by kernel_rfl) (by kernel_rfl) (fun _ _ _ h => h) (by rfl) ?_ hHeld ?_
  rotate_left
  · intro w hSw; go_simp <;> with_reducible rfl
  simp only [Act.put, List.setIfInBounds_toArray, List.set_cons_zero, List.set_cons_succ]
  refine takeY 7 (some 39) ?_ rfl rfl (by kernel_rfl) (by kernel_rfl) (by kernel_rfl) (fun _ _ _ h => h) (by rfl) ?_ hHeld ?_
  rotate_left
  · intro w hSw; go_simp <;> with_reducible rfl
  simp only [Act.put, List.setIfInBounds_toArray, List.set_cons_zero, List.set_cons_succ]
  refine takeY 11 (some 43) ?_ rfl rfl (by kernel_rfl) (by kernel_rfl) (by kernel_rfl) (fun _ _ _ h => h) (by rfl) ?_ hHeld ?_
  rotate_left
  · intro w hSw; go_simp <;> with_reducible rfl
  simp only [Act.put, List.setIfInBounds_toArray, List.set_cons_zero, List.set_cons_succ]
  refine takeY 12 (some 44) ?_ rfl rfl (by kernel_rfl) (by kernel_rfl) (by kernel_rfl) (fun _ _ _ h => h) (by rfl) ?_ hHeld ?_
  rotate_left
  · intro w hSw; go_simp <;> with_reducible rfl
  simp only [Act.put, List.setIfInBounds_toArray, List.set_cons_zero, List.set_cons_succ]
  refine takeY 13 (some 45) ?_ rfl rfl (by kernel_rfl) (by kernel_rfl) (by kernel_rfl) (fun _ _ _ h => h) (by rfl) ?_ hHeld ?_
  rotate_left
  · intro w hSw; go_simp <;> with_reducible rfl
  simp only [Act.put, List.setIfInBounds_toArray, List.set_cons_zero, List.set_cons_succ]
  refine takeY 16 (some 48) ?_ rfl rfl (by kernel_rfl) (by kernel_rfl) (by kernel_rfl) (fun _ _ _ h => h) (by rfl) ?_ hHeld ?_
  rotate_left
  · intro w hSw; go_simp <;> with_reducible rfl
  simp only [Act.put, List.setIfInBounds_toArray, List.set_cons_zero, List.set_cons_succ]
  refine takeY 17 (some 49) ?_ rfl rfl (by kernel_rfl) (by kernel_rfl) (by kernel_rfl) (fun _ _ _ h => h) (by rfl) ?_ hHeld ?_
  rotate_left
  · intro w hSw; go_simp <;> with_reducible rfl
  simp only [Act.put, List.setIfInBounds_toArray, List.set_cons_zero, List.set_cons_succ]
  refine wpAnyH_ready (rs := [8, 14]) (by kernel_rfl) (by simp) ?_
  refine AllReadyH.cons rfl (fun K hK => ?_) (AllReadyH.cons rfl (fun K hK => ?_) AllReadyH.nil)
  · go_simp
    refine hK.out _ _ (Box.alloc hHeld _) (fun hHeld => ?_)
    clear hK K
    try simp only [Act.put, List.setIfInBounds_toArray, List.set_cons_zero, List.set_cons_succ]
    refine wpAnyH_ready (rs := [9, 14]) (by kernel_rfl) (by simp) ?_
    refine AllReadyH.cons rfl (fun K hK => ?_) (AllReadyH.cons rfl (fun K hK => ?_) AllReadyH.nil)
    · go_simp
      refine hK.out _ _ hHeld (fun hHeld => ?_)
      clear hK K
      try simp only [Act.put, List.setIfInBounds_toArray, List.set_cons_zero, List.set_cons_succ]
      refine takeY 10 (some 42) ?_ rfl rfl (by kernel_rfl) (by kernel_rfl) (by kernel_rfl) (fun _ _ _ h => h) (by rfl) ?_ hHeld ?_
      rotate_left
      · intro w hSw; go_simp <;> with_reducible rfl
      simp only [Act.put, List.setIfInBounds_toArray, List.set_cons_zero, List.set_cons_succ]
      refine wpAnyH_ready (rs := [14]) (by kernel_rfl) (by simp) ?_
      refine AllReadyH.cons rfl (fun K hK => ?_) AllReadyH.nil
      go_simp
      refine (unhide HF _).mono ?_
      rintro e w2 ⟨rfl, hb2⟩
      have HX2 := Box.then hHeld hb2
      refine hK.out _ _ HX2 (fun hHeld => ?_)
      clear hK K
      try simp only [Act.put, List.setIfInBounds_toArray, List.set_cons_zero, List.set_cons_succ]
      refine takeY 15 (some 47) ?_ rfl rfl (by kernel_rfl) (by kernel_rfl) (by kernel_rfl) (fun _ _ _ h => h) (by rfl) ?_ hHeld ?_
      rotate_left
      · intro w hSw; go_simp <;> with_reducible rfl
      simp only [Act.put, List.setIfInBounds_toArray, List.set_cons_zero, List.set_cons_succ]
      refine takeY 18 (some 50) ?_ rfl rfl (by kernel_rfl) (by kernel_rfl) (by kernel_rfl) (fun _ _ _ h => h) (by rfl) ?_ hHeld ?_
      rotate_left
      · intro w hSw; go_simp <;> with_reducible rfl
      simp only [Act.put, List.setIfInBounds_toArray, List.set_cons_zero, List.set_cons_succ]
      refine takeY 19 (some 5) ?_ rfl rfl (by kernel_rfl) (by kernel_rfl) (by kernel_rfl) (fun _ _ _ h => h) (by rfl) ?_ hHeld ?_
      rotate_left
      · intro w hSw; go_simp <;> with_reducible rfl
      simp only [Act.put, List.setIfInBounds_toArray, List.set_cons_zero, List.set_cons_succ]
      refine wpAnyH_done (by kernel_rfl) ?_ _
      refine NoPanic.normal ?_
      obtain ⟨n, hn⟩ : ∃ n : Nat, 1007 - P.size = n := ⟨_, rfl⟩
      have he := sector_text k g P hk hp
      rw [hn, ← ByteArray.append_assoc] at he
      have HE := hide he
      clear he
      have hn7 : n + P.size = 1007 := by omega
      clear hn
      have v5 : (1020 : Int) - (13 + (P.size : Int)) = (n : Int) := by omega
      have hTz : (⟨#[67, 80]⟩ ++ strOfNums [(k : Int), (P.size : Int) / 256, (P.size : Int) % 256] ++ strOf (Pk.fixL g)).size = 13 := text_size k g P
      generalize ⟨#[67, 80]⟩ ++ strOfNums [(k : Int), (P.size : Int) / 256, (P.size : Int) % 256] ++ strOf (Pk.fixL g) = T at *
      have HB := hide (And.left hHeld)
      clear hHeld hcv hcv2 r1 r2 r5 z3
      have hmk := make_run n (by omega)
      have hmc := make_conv n
      have hz0 := zeros_size n
      have hz : (T ++ P ++ zeros n).size = 1020 := by rw [ByteArray.size_append, ByteArray.size_append, zeros_size]; omega
      have HS := hide (fun w' => refSum_any (T ++ P ++ zeros n) w' (by unfold maxLen; omega))
      have hc := Crc.sum_lt (bn (T ++ P ++ zeros n)) (bn_lt _)
      have hfc := four_conv
      have z4 : ∀ a b c d : Int, (strOfNums [a, b, c, d]).size = 4 := fun a b c d => by rw [strOfNums_size]; rfl
      generalize Crc.sum (bn (T ++ P ++ zeros n)) = c at *
      go_wp2_with (go_at_call 134; refine (unhide HS _).mono ?_; rintro e w4 ⟨rfl, hw⟩; have hw := hw.symm; subst hw)
      go_ret2
      refine ⟨?_, below_then (unhide HB) (below_then (mk_below n _) ((Below.refl _ _).alloc (Nat.le_refl _) _))⟩
      exact ret2_si (s := T ++ P ++ zeros n ++ strOfNums [_, _, _, _]) ((congrArg (T ++ P ++ zeros n ++ ·) (four_le c (by omega) (by omega) (by omega) (by omega))).trans (unhide HE))
    · go_simp
      refine (unhide HF _).mono ?_
      rintro e w2 ⟨rfl, hb2⟩
      have HX2 := Box.then hHeld hb2
      have hc2 := conv_kept hb2
      refine hK.out _ _ HX2 (fun hHeld => ?_)
      clear hK K
      try simp only [Act.put, List.setIfInBounds_toArray, List.set_cons_zero, List.set_cons_succ]
      refine wpAnyH_ready (rs := [9]) (by kernel_rfl) (by simp) ?_
      refine AllReadyH.cons rfl (fun K hK => ?_) AllReadyH.nil
      go_simp
      refine hK.out _ _ hHeld (fun hHeld => ?_)
      clear hK K
      try simp only [Act.put, List.setIfInBounds_toArray, List.set_cons_zero, List.set_cons_succ]
      refine takeY 10 (some 42) ?_ rfl rfl (by kernel_rfl) (by kernel_rfl) (by kernel_rfl) (fun _ _ _ h => h) (by rfl) ?_ hHeld ?_
      rotate_left
      · intro w hSw; go_simp <;> with_reducible rfl
      simp only [Act.put, List.setIfInBounds_toArray, List.set_cons_zero, List.set_cons_succ]
      refine takeY 15 (some 47) ?_ rfl rfl (by kernel_rfl) (by kernel_rfl) (by kernel_rfl) (fun _ _ _ h => h) (by rfl) ?_ hHeld ?_
      rotate_left
      · intro w hSw; go_simp <;> with_reducible rfl
      simp only [Act.put, List.setIfInBounds_toArray, List.set_cons_zero, List.set_cons_succ]
      refine takeY 18 (some 50) ?_ rfl rfl (by kernel_rfl) (by kernel_rfl) (by kernel_rfl) (fun _ _ _ h => h) (by rfl) ?_ hHeld ?_
      rotate_left
      · intro w hSw; go_simp <;> with_reducible rfl
      simp only [Act.put, List.setIfInBounds_toArray, List.set_cons_zero, List.set_cons_succ]
      refine takeY 19 (some 5) ?_ rfl rfl (by kernel_rfl) (by kernel_rfl) (by kernel_rfl) (fun _ _ _ h => h) (by rfl) ?_ hHeld ?_
      rotate_left
      · intro w hSw; go_simp <;> with_reducible rfl
      simp only [Act.put, List.setIfInBounds_toArray, List.set_cons_zero, List.set_cons_succ]
      refine wpAnyH_done (by kernel_rfl) ?_ _
      refine NoPanic.normal ?_
      obtain ⟨n, hn⟩ : ∃ n : Nat, 1007 - P.size = n := ⟨_, rfl⟩
      have he := sector_text k g P hk hp
      rw [hn, ← ByteArray.append_assoc] at he
      have HE := hide he
      clear he
      have hn7 : n + P.size = 1007 := by omega
      clear hn
      have v5 : (1020 : Int) - (13 + (P.size : Int)) = (n : Int) := by omega
      have hTz : (⟨#[67, 80]⟩ ++ strOfNums [(k : Int), (P.size : Int) / 256, (P.size : Int) % 256] ++ strOf (Pk.fixL g)).size = 13 := text_size k g P
      generalize ⟨#[67, 80]⟩ ++ strOfNums [(k : Int), (P.size : Int) / 256, (P.size : Int) % 256] ++ strOf (Pk.fixL g) = T at *
      have HB := hide (And.left hHeld)
      clear hHeld hcv hcv2 r1 r2 r5 z3
      have hmk := make_run n (by omega)
      have hmc := make_conv n
      have hz0 := zeros_size n
      have hz : (T ++ P ++ zeros n).size = 1020 := by rw [ByteArray.size_append, ByteArray.size_append, zeros_size]; omega
      have HS := hide (fun w' => refSum_any (T ++ P ++ zeros n) w' (by unfold maxLen; omega))
      have hc := Crc.sum_lt (bn (T ++ P ++ zeros n)) (bn_lt _)
      have hfc := four_conv
      have z4 : ∀ a b c d : Int, (strOfNums [a, b, c, d]).size = 4 := fun a b c d => by rw [strOfNums_size]; rfl
      generalize Crc.sum (bn (T ++ P ++ zeros n)) = c at *
      go_wp2_with (go_at_call 134; refine (unhide HS _).mono ?_; rintro e w4 ⟨rfl, hw⟩; have hw := hw.symm; subst hw)
      go_ret2
      refine ⟨?_, below_then (unhide HB) (below_then (mk_below n _) ((Below.refl _ _).alloc (Nat.le_refl _) _))⟩
      exact ret2_si (s := T ++ P ++ zeros n ++ strOfNums [_, _, _, _]) ((congrArg (T ++ P ++ zeros n ++ ·) (four_le c (by omega) (by omega) (by omega) (by omega))).trans (unhide HE))
  · go_simp
    refine (unhide HF _).mono ?_
    rintro e w2 ⟨rfl, hb2⟩
    have HX2 := Box.then hHeld hb2
    refine hK.out _ _ HX2 (fun hHeld => ?_)
    clear hK K
    try simp only [Act.put, List.setIfInBounds_toArray, List.set_cons_zero, List.set_cons_succ]
    refine wpAnyH_ready (rs := [8]) (by kernel_rfl) (by simp) ?_
    refine AllReadyH.cons rfl (fun K hK => ?_) AllReadyH.nil
    go_simp
    refine hK.out _ _ (Box.alloc hHeld _) (fun hHeld => ?_)
    clear hK K
    try simp only [Act.put, List.setIfInBounds_toArray, List.set_cons_zero, List.set_cons_succ]
    refine wpAnyH_ready (rs := [9]) (by kernel_rfl) (by simp) ?_
    refine AllReadyH.cons rfl (fun K hK => ?_) AllReadyH.nil
    go_simp
    refine hK.out _ _ hHeld (fun hHeld => ?_)
    clear hK K
    try simp only [Act.put, List.setIfInBounds_toArray, List.set_cons_zero, List.set_cons_succ]
    refine takeY 10 (some 42) ?_ rfl rfl (by kernel_rfl) (by kernel_rfl) (by kernel_rfl) (fun _ _ _ h => h) (by rfl) ?_ hHeld ?_
    rotate_left
    · intro w hSw; go_simp <;> with_reducible rfl
    simp only [Act.put, List.setIfInBounds_toArray, List.set_cons_zero, List.set_cons_succ]
    refine takeY 15 (some 47) ?_ rfl rfl (by kernel_rfl) (by kernel_rfl) (by kernel_rfl) (fun _ _ _ h => h) (by rfl) ?_ hHeld ?_
    rotate_left
    · intro w hSw; go_simp <;> with_reducible rfl
    simp only [Act.put, List.setIfInBounds_toArray, List.set_cons_zero, List.set_cons_succ]
    refine takeY 18 (some 50) ?_ rfl rfl (by kernel_rfl) (by kernel_rfl) (by kernel_rfl) (fun _ _ _ h => h) (by rfl) ?_ hHeld ?_
    rotate_left
    · intro w hSw; go_simp <;> with_reducible rfl
    simp only [Act.put, List.setIfInBounds_toArray, List.set_cons_zero, List.set_cons_succ]
    refine takeY 19 (some 5) ?_ rfl rfl (by kernel_rfl) (by kernel_rfl) (by kernel_rfl) (fun _ _ _ h => h) (by rfl) ?_ hHeld ?_
    rotate_left
    · intro w hSw; go_simp <;> with_reducible rfl
    simp only [Act.put, List.setIfInBounds_toArray, List.set_cons_zero, List.set_cons_succ]
    generalize w2.alloc (.cells #[.int .u8 (k : Int), .int .u8 ((P.size : Int) / 256), .int .u8 ((P.size : Int) % 256)] 5) = wX at *
    refine wpAnyH_done (by kernel_rfl) ?_ _
    refine NoPanic.normal ?_
    obtain ⟨n, hn⟩ : ∃ n : Nat, 1007 - P.size = n := ⟨_, rfl⟩
    have he := sector_text k g P hk hp
    rw [hn, ← ByteArray.append_assoc] at he
    have HE := hide he
    clear he
    have hn7 : n + P.size = 1007 := by omega
    clear hn
    have v5 : (1020 : Int) - (13 + (P.size : Int)) = (n : Int) := by omega
    have hTz : (⟨#[67, 80]⟩ ++ strOfNums [(k : Int), (P.size : Int) / 256, (P.size : Int) % 256] ++ strOf (Pk.fixL g)).size = 13 := text_size k g P
    generalize ⟨#[67, 80]⟩ ++ strOfNums [(k : Int), (P.size : Int) / 256, (P.size : Int) % 256] ++ strOf (Pk.fixL g) = T at *
    have HB := hide (And.left hHeld)
    clear hHeld hcv hcv2 r1 r2 r5 z3
    have hmk := make_run n (by omega)
    have hmc := make_conv n
    have hz0 := zeros_size n
    have hz : (T ++ P ++ zeros n).size = 1020 := by rw [ByteArray.size_append, ByteArray.size_append, zeros_size]; omega
    have HS := hide (fun w' => refSum_any (T ++ P ++ zeros n) w' (by unfold maxLen; omega))
    have hc := Crc.sum_lt (bn (T ++ P ++ zeros n)) (bn_lt _)
    have hfc := four_conv
    have z4 : ∀ a b c d : Int, (strOfNums [a, b, c, d]).size = 4 := fun a b c d => by rw [strOfNums_size]; rfl
    generalize Crc.sum (bn (T ++ P ++ zeros n)) = c at *
    go_wp2_with (go_at_call 134; refine (unhide HS _).mono ?_; rintro e w4 ⟨rfl, hw⟩; have hw := hw.symm; subst hw)
    go_ret2
    refine ⟨?_, below_then (unhide HB) (below_then (mk_below n _) ((Below.refl _ _).alloc (Nat.le_refl _) _))⟩
    exact ret2_si (s := T ++ P ++ zeros n ++ strOfNums [_, _, _, _]) ((congrArg (T ++ P ++ zeros n ++ ·) (four_le c (by omega) (by omega) (by omega) (by omega))).trans (unhide HE))

theorem rwrap_any (K G : Int) (P : ByteArray) (w : World) (hT : Tab w) :
    Calls Tryz.prog 95 #[.agg #[.int .i64 K, .int .i64 G, .string P]] w fun e w' => e = .returned (.tuple #[.string (wrapR K G P).1, .int .i64 ((wrapR K G P).2 : Nat)]) ∧ Below w.heap.size w w' := by
  by_cases h : K < 0 ∨ 255 < K ∨ G < 0 ∨ 1152921504606846976 < G
  · rw [wrapR_arg h]
    exact rwrap_arg K G P w h
  · by_cases hp : 1007 < P.size
    · rw [wrapR_big h hp]
      exact rwrap_big K G P w h hp
    · rw [wrapR_ok h hp]
      obtain ⟨k, rfl⟩ := Int.eq_ofNat_of_zero_le (show 0 ≤ K by omega)
      obtain ⟨g, rfl⟩ := Int.eq_ofNat_of_zero_le (show 0 ≤ G by omega)
      exact rwrap_ok k g P w hT (by omega) (by omega) (by omega)
end Go.Proofs.YtlmgmdnmghgkbaaGreatDoor.L4

/- The document's heap: Put. -/
namespace Go.Proofs.YtlmgmdnmghgkbaaGreatDoor
open Go.ChangeShapes Go.WideShapes Go.ChangeAt Go.RowKit
variable {w w' : World} {q r : Nat} {h : Hp} {a g : Nat} {fr : List Nat} {kv : List Value} {F : List Nat}

theorem take_succ_count (l : List Int) (k : Nat) (hk : k < l.length) (x : Int) : (l.take (k + 1)).count x = (l.take k).count x + (if l[k] = x then 1 else 0) := by
  rw [List.take_add_one, List.getElem?_eq_getElem hk]
  show (l.take k ++ [l[k]]).count x = _
  rw [List.count_append, List.count_singleton]
  congr 1
  by_cases e : l[k] = x <;> simp [e]
theorem cellsM {w w' : World} {a : Addr} {v : Value} {fq : List Nat} (hm : Moves fq w w') (hc : w.cell? a = some v) (ha : a.block ∉ fq) : w'.cell? a = some v :=
  (World.cell?_of_block (hm.block a.block (World.block_lt_of_cell? _ _ hc) ha)).trans hc
theorem old_write (m : L3.Dk) (n : Int) (s : ByteArray) : (L3.writeM m n s).old.length = m.old.length := by
  unfold L3.writeM
  repeat' split
  all_goals rfl

set_option maxHeartbeats 8000000 in
set_option maxRecDepth 20000 in
theorem rhput_any (n : L6.Nd) (ai ak : Option Addr) (ci ck : Nat) (w : World) (H : IsRh w q h F) (hn : L6.Has w n ai ak) (hil : n.its.length ≤ 1100) (hkl : n.kds.length ≤ 1100) (hop : h.dk.op.length ≤ 1000000) :
    Calls Tryz.prog 36 #[.pointer (some ⟨q, 0, none⟩), .agg #[.bool n.leaf, .slice ai n.its.length ci, .slice ak n.kds.length ck]] w fun e w' => e = .returned (.tuple #[.int .i64 (putR h n).1, .int .i64 (putR h n).2.1]) ∧ RhTurned w w' q (putR h n).2.2 F := by
  have hb0 := below_alloc w (.cells #[.bool n.leaf, .slice ai n.its.length ci, .slice ak n.kds.length ck] 43)
  have q0 : (w.alloc (.cells #[.bool n.leaf, .slice ai n.its.length ci, .slice ak n.kds.length ck] 43)).cell? ⟨w.heap.size, 0, none⟩ = some (.bool n.leaf) := by simp
  have q1 : (w.alloc (.cells #[.bool n.leaf, .slice ai n.its.length ci, .slice ak n.kds.length ck] 43)).cell? ⟨w.heap.size, 1, none⟩ = some (.slice ai n.its.length ci) := by simp
  have q2 : (w.alloc (.cells #[.bool n.leaf, .slice ai n.its.length ci, .slice ak n.kds.length ck] 43)).cell? ⟨w.heap.size, 2, none⟩ = some (.slice ak n.kds.length ck) := by simp
  have HN := hide (hn.grow hb0)
  have HH := hide (H.grow hb0)
  have HH0 := hide H
  have HB := hide hb0
  have HIL := hide hil
  have HKL := hide hkl
  have HOP := hide hop
  clear hn H hb0 hil hkl hop
  obtain ⟨B, hB⟩ : ∃ x, x = w.heap.size := ⟨_, rfl⟩
  by_cases hE : (L6.encodeN n).2 = 0
  · go_enter Tryz.func36, Tryz.ntmps36
    go_wp2_with fail
    have HE := hide hE
    rw [← hB] at q0 q1 q2 ⊢
    have HBE := hide hB
    clear hB
    generalize w.alloc (.cells #[.bool n.leaf, .slice ai n.its.length ci, .slice ak n.kds.length ck] 43) = w1 at *
    refine (L6.refEncode_any n ai ak ci ck w1 (unhide HN) (unhide HIL) (unhide HKL)).mono ?_
    rintro x w2 ⟨rfl, hb2⟩
    rw [hE]
    clear hE
    obtain ⟨Y, hY⟩ : ∃ x, x = (L6.encodeN n).1 := ⟨_, rfl⟩
    rw [← hY]
    have HY := hide hY
    clear hY
    have q0' := (hb2.cell (World.block_lt_of_cell? _ _ q0)).trans q0
    have q1' := (hb2.cell (World.block_lt_of_cell? _ _ q1)).trans q1
    have q2' := (hb2.cell (World.block_lt_of_cell? _ _ q2)).trans q2
    have HN2 := hide ((unhide HN).grow hb2)
    have HH2 := hide ((unhide HH).grow hb2)
    have HB2 := hide (below_then (unhide HB) hb2)
    clear hb2 q0 q1 q2 HN HH HB
    go_wp2_with fail
    refine (rkids_any n ai ak ci ck w2 (unhide HN2) (unhide HKL)).mono ?_
    rintro x w3 ⟨v, rfl, hv3, hg3, hb3⟩
    have q0 := (hb3.cell (World.block_lt_of_cell? _ _ q0')).trans q0'
    have q1 := (hb3.cell (World.block_lt_of_cell? _ _ q1')).trans q1'
    have q2 := (hb3.cell (World.block_lt_of_cell? _ _ q2')).trans q2'
    have HV := hide hv3
    obtain ⟨r, a, g, fr, kv, R3, rfl⟩ := (unhide HH2).grow hb3
    have HH3 := hide R3
    have HB3 := hide (below_then (unhide HB2) hb3)
    clear hb3 hv3 hg3 q0' q1' q2' HN2 HH2 HB2 R3
    have hlen : (places n).length ≤ 1100 := by unfold places; rw [List.length_map]; exact unhide HKL
    have HLEN := hide hlen
    have HPX : Hid (∀ x ∈ places n, 2 ≤ x ∧ x < 4096) := enc_places (unhide HE)
    have HQS := hide (And.intro q0 (And.intro q1 q2))
    clear hlen q0 q1 q2
    obtain ⟨ks, hks⟩ : ∃ x, x = places n := ⟨_, rfl⟩
    rw [← hks] at HV HLEN HPX
    have HKS := hide hks
    clear hks
    obtain ⟨a0, cap0, rfl⟩ := (unhide HV).form
    go_wp2_with fail
    go_loopw [9] (fun t wr => ∃ k : Nat, k ≤ ks.length ∧ t = .int .i64 (k : Int) ∧ (∀ j (hj : j < ks.length), j < k → cntL h.al ks[j] ≠ 0) ∧ Below w3.heap.size w3 wr) (fun t _ => ks.length - (intOf t).toNat)
    case atStart => exact ⟨0, Nat.zero_le _, rfl, (fun j hj h => absurd h (Nat.not_lt_zero _)), Below.refl _ _⟩
    case round =>
      obtain ⟨k, hk, rfl, hc0, hb⟩ := hrel
      have HC := hide hc0
      have HB := hide hb
      have hL := unhide HLEN
      clear hc0 hb
      by_cases hlt : k < ks.length
      · obtain ⟨gb, rfl, hcell⟩ := ((unhide HV).grow (unhide HB)).at k hlt
        have hx := unhide HPX ks[k] (List.getElem_mem hlt)
        have c1 := ((unhide HH3).grow (unhide HB)).cell1
        have HA : Hid (L5.RefAt wr.drew a g 2 h.al) := ((unhide HH3).grow (unhide HB)).al.grow (below_drew wr)
        have hI : L5.I64 ks[k] := by unfold L5.I64; omega
        have HI := hide hI
        have hlt' : (k : Int) < (ks.length : Int) := by omega
        obtain ⟨X, hX⟩ : ∃ y, y = ks[k] := ⟨_, rfl⟩
        rw [← hX] at hcell HI
        have HXE := hide hX
        clear hx hI hX
        by_cases hz : cntL h.al X = 0
        · have hz' : ((L5.cntS (L5.sec 2 h.al X) : Nat) : Int) = 0 := by have : L5.cntS (L5.sec 2 h.al X) = 0 := hz; omega
          have HZ := hide hz
          have HZE := hide hz'
          clear hz hz'
          go_wp2_with fail
          go_region_held3 (fun w' => w'.cell? ⟨q, 1, none⟩ = some (.pointer (some ⟨a, 0, none⟩)) ∧ w'.cell? ⟨gb, k, none⟩ = some (.int .i64 X))
            (first | assumption | exact ⟨c1, hcell⟩ | exact ⟨d1, dcell⟩)
            (first
              | (go_at_call 63; go_split_ands; refine (L5.rcount_any X (unhide HI) _ (unhide HA)).mono ?_; rintro e w4 ⟨rfl, hb4⟩; rw [unhide HZE]; have d1 := (hb4.cell (World.block_lt_of_cell? _ _ (show wr.drew.cell? _ = _ from c1))).trans c1; have dcell := (hb4.cell (World.block_lt_of_cell? _ _ (show wr.drew.cell? _ = _ from hcell))).trans hcell; have HB4 := hide (below_then (below_drew wr) hb4); clear hb4))
          all_goals
            go_wp2
            go_ret2
            have hD : putR h n = (0, 51, h) := by
              have hm : mayE h.al (places n) = 51 := by
                unfold mayE
                rw [← unhide HKS, any_of hlt (by rw [← unhide HXE]; simpa using unhide HZ), if_pos rfl]
              unfold putR
              rw [if_neg (fun hn => hn (unhide HE)), hm, if_pos (by decide)]
            rw [hD]
            exact ⟨rfl, (unhide HH0).stays (below_then (unhide HB3) (below_then (unhide HB) (unhide HB4)))⟩
        · have hz' : (((L5.cntS (L5.sec 2 h.al X) : Nat) : Int) == 0) = false := beq_eq_false_iff_ne.2 (by have : ¬ L5.cntS (L5.sec 2 h.al X) = 0 := hz; omega)
          have HZ := hide hz
          clear hz
          obtain ⟨C, hC⟩ : ∃ y, y = ((L5.cntS (L5.sec 2 h.al X) : Nat) : Int) := ⟨_, rfl⟩
          rw [← hC] at hz'
          have HCE := hide hC
          clear hC
          go_wp2_with fail
          go_region_held3 (fun w' => w'.cell? ⟨q, 1, none⟩ = some (.pointer (some ⟨a, 0, none⟩)) ∧ w'.cell? ⟨gb, k, none⟩ = some (.int .i64 X))
            (first | assumption | exact ⟨c1, hcell⟩ | exact ⟨d1, dcell⟩)
            (first
              | (go_at_call 63; go_split_ands; refine (L5.rcount_any X (unhide HI) _ (unhide HA)).mono ?_; rintro e w4 ⟨rfl, hb4⟩; rw [← unhide HCE]; have d1 := (hb4.cell (World.block_lt_of_cell? _ _ (show wr.drew.cell? _ = _ from c1))).trans c1; have dcell := (hb4.cell (World.block_lt_of_cell? _ _ (show wr.drew.cell? _ = _ from hcell))).trans hcell; have HB4 := hide (below_then (below_drew wr) hb4); clear hb4))
          all_goals
            clear c1 hcell
            go_wp2
            go_roundw
            case rel =>
              refine ⟨k + 1, by omega, by go_num, fun j hj hjk => ?_, below_then (unhide HB) (unhide HB4)⟩
              by_cases e : j = k
              · subst e
                rw [← unhide HXE]
                exact unhide HZ
              · exact unhide HC j hj (by omega)
            case measure => simp [intOf]; omega
      · obtain rfl : k = ks.length := by omega
        clear hlt
        have hno : ks.any (fun k => decide (cntL h.al k = 0)) = false := any_no (fun j hj => by simpa using unhide HC j hj hj)
        have HNO := hide hno
        clear hno HC
        go_wp2
        go_loopw [10] (fun t wr => ∃ k : Nat, k ≤ ks.length ∧ t = .int .i64 (k : Int) ∧ (∀ j (hj : j < ks.length), j < k → ¬ 5000 < cntL h.al ks[j] + ks.count ks[j]) ∧ Below w3.heap.size w3 wr) (fun t _ => ks.length - (intOf t).toNat)
        case atStart => exact ⟨0, Nat.zero_le _, rfl, (fun j hj h => absurd h (Nat.not_lt_zero _)), unhide HB⟩
        case round =>
          clear HB
          obtain ⟨k, hk, rfl, hc0, hb⟩ := hrel
          have HC := hide hc0
          have HB := hide hb
          clear hc0 hb
          by_cases hlt : k < ks.length
          · obtain ⟨gb, rfl, hcell⟩ := ((unhide HV).grow (unhide HB)).at k hlt
            have hx := unhide HPX ks[k] (List.getElem_mem hlt)
            have hI : L5.I64 ks[k] := by unfold L5.I64; omega
            have HI := hide hI
            have hlt' : (k : Int) < (ks.length : Int) := by omega
            have hL := unhide HLEN
            obtain ⟨X, hX⟩ : ∃ y, y = ks[k] := ⟨_, rfl⟩
            rw [← hX] at hcell HI
            have HXE := hide hX
            clear hx hI hX hcell
            go_wp2_with fail
            go_loopw [11, 12] (fun s t wr => ∃ m : Nat, m ≤ ks.length ∧ s = .int .i64 (((ks.take m).count X : Nat) : Int) ∧ t = .int .i64 (m : Int) ∧ Below w3.heap.size w3 wr) (fun s t _ => ks.length - (intOf t).toNat)
            case atStart => exact ⟨0, Nat.zero_le _, rfl, rfl, unhide HB⟩
            case round =>
              clear HB
              obtain ⟨m, hm, rfl, rfl, hb⟩ := hrel
              have HB := hide hb
              clear hb
              obtain ⟨gb2, e2, hck⟩ := ((unhide HV).grow (unhide HB)).at k hlt
              cases e2
              rw [← unhide HXE] at hck
              have hct : (ks.take m).count X ≤ 1100 := by have := List.count_le_length (a := X) (l := ks.take m); rw [List.length_take] at this; omega
              by_cases hlm : m < ks.length
              · obtain ⟨gb3, e3, hcm⟩ := ((unhide HV).grow (unhide HB)).at m hlm
                cases e3
                have hlm' : (m : Int) < (ks.length : Int) := by omega
                have HTS := hide (take_succ_count ks m hlm X)
                obtain ⟨Z, hZ⟩ : ∃ y, y = ks[m] := ⟨_, rfl⟩
                rw [← hZ] at hcm HTS
                clear hZ
                generalize hTT : (ks.take m).count X = T at *
                have HTT := hide hTT
                clear hTT
                by_cases hXm : Z = X
                · have HT1 : Hid ((ks.take (m + 1)).count X = T + 1) := by
                    have := unhide HTS
                    rw [if_pos hXm] at this
                    exact this
                  clear HTS
                  subst hXm
                  go_wp2_with fail
                  go_region
                  go_wp2
                  go_roundw
                  case rel =>
                    refine ⟨m + 1, by omega, ?_, by go_num, below_then (unhide HB) (below_drew _)⟩
                    rw [unhide HT1]
                    go_num
                  case measure => simp [intOf]; omega
                · have hXm' : (Z == X) = false := beq_eq_false_iff_ne.2 hXm
                  have HT1 : Hid ((ks.take (m + 1)).count X = T) := by
                    have := unhide HTS
                    rw [if_neg hXm] at this
                    exact this
                  clear HTS
                  go_wp2_with fail
                  go_region
                  go_wp2
                  go_roundw
                  case rel =>
                    refine ⟨m + 1, by omega, ?_, by go_num, below_then (unhide HB) (below_drew _)⟩
                    rw [unhide HT1]
                  case measure => simp [intOf]; omega
              · obtain rfl : m = ks.length := by omega
                clear hlm
                rw [List.take_length] at hct ⊢
                have c1 := ((unhide HH3).grow (unhide HB)).cell1
                have HA : Hid (L5.RefAt wr.drew a g 2 h.al) := ((unhide HH3).grow (unhide HB)).al.grow (below_drew wr)
                have hcn : L5.cntS (L5.sec 2 h.al X) ≤ 5000 := by
                  have hs := (unhide HA).ok.sec X
                  revert hs
                  cases L5.sec 2 h.al X with
                  | none => intro _; exact Nat.zero_le _
                  | some y => intro hs; exact hs.1
                obtain ⟨C, hC⟩ : ∃ y, y = L5.cntS (L5.sec 2 h.al X) := ⟨_, rfl⟩
                obtain ⟨T, hTq⟩ : ∃ y, y = ks.count X := ⟨_, rfl⟩
                rw [← hC] at hcn
                rw [← hTq] at hct ⊢
                have HCE := hide hC
                have HTE := hide hTq
                have hwrap : IntKind.i64.wrap ((C : Int) + (T : Int)) = (C : Int) + (T : Int) := by rw [IntKind.wrap_i64]; omega
                clear hC hTq
                go_wp2_with fail
                go_region_held3 (fun w' => w'.cell? ⟨q, 1, none⟩ = some (.pointer (some ⟨a, 0, none⟩)) ∧ w'.cell? ⟨gb, k, none⟩ = some (.int .i64 X))
                  (first | assumption | exact ⟨c1, hck⟩ | exact ⟨d1, dcell⟩)
                  (first
                    | (go_at_call 63; go_split_ands; refine (L5.rcount_any X (unhide HI) _ (unhide HA)).mono ?_; rintro e w4 ⟨rfl, hb4⟩; rw [← unhide HCE]; have d1 := (hb4.cell (World.block_lt_of_cell? _ _ (show wr.drew.cell? _ = _ from c1))).trans c1; have dcell := (hb4.cell (World.block_lt_of_cell? _ _ (show wr.drew.cell? _ = _ from hck))).trans hck; have HB4 := hide (below_then (below_drew wr) hb4); clear hb4))
                all_goals
                  clear c1 hck
                  by_cases hbig : 5000 < (C : Int) + (T : Int)
                  · go_wp2
                    go_ret2
                    have hD : putR h n = (0, 52, h) := by
                      have hm : mayE h.al (places n) = 52 := by
                        unfold mayE
                        rw [← unhide HKS, unhide HNO, if_neg (by decide), any_of hlt (by
                          rw [← unhide HXE, ← unhide HTE]
                          have e : cntL h.al X = C := (unhide HCE).symm
                          rw [e]
                          have : 5000 < C + T := by omega
                          simpa using this), if_pos rfl]
                      unfold putR
                      rw [if_neg (fun hn => hn (unhide HE)), hm, if_pos (by decide)]
                    rw [hD]
                    exact ⟨rfl, (unhide HH0).stays (below_then (unhide HB3) (below_then (unhide HB) (unhide HB4)))⟩
                  · go_wp2
                    go_roundw
                    case rel =>
                      refine ⟨k + 1, by omega, by go_num, fun j hj hjk => ?_, below_then (unhide HB) (unhide HB4)⟩
                      by_cases e : j = k
                      · subst e
                        rw [← unhide HXE, ← unhide HTE]
                        have e : cntL h.al X = C := (unhide HCE).symm
                        rw [e]
                        omega
                      · exact unhide HC j hj (by omega)
                    case measure => simp [intOf]; omega
          · obtain rfl : k = ks.length := by omega
            clear hlt
            have hM : mayE h.al (places n) = 0 := by
              unfold mayE
              rw [← unhide HKS, unhide HNO, if_neg (by decide), any_no (fun j hj => by simpa using unhide HC j hj hj), if_neg (by decide)]
            have HM := hide hM
            have R5 := (unhide HH3).grow (unhide HB)
            have hgn := R5.gen
            have hG64 : L5.I64 h.gen := by unfold L5.I64; omega
            have HG64 := hide hG64
            have HG0 := hide hgn
            have c1 := R5.cell1
            have c2 := R5.cell2
            obtain ⟨z0, z1, z2⟩ := unhide HQS
            have y0 := ((unhide HB).cell (World.block_lt_of_cell? _ _ z0)).trans z0
            have y1 := ((unhide HB).cell (World.block_lt_of_cell? _ _ z1)).trans z1
            have y2 := ((unhide HB).cell (World.block_lt_of_cell? _ _ z2)).trans z2
            have hBF : B ∉ rfoot q a g fr := fun hx => by
              have := (unhide HH0).lt B hx
              have := unhide HBE
              omega
            have HBF := hide hBF
            have HH5 : Hid (RhAt wr.drew q r h a g fr kv) := R5.grow (below_drew wr)
            have HV5 : Hid (Ints wr.drew (.slice a0 ks.length cap0) ks) := ((unhide HV).grow (unhide HB)).grow (below_drew wr)
            have HB5 : Hid (Below w.heap.size w wr.drew) := below_then (below_then (unhide HB3) (unhide HB)) (below_drew wr)
            have HY5 := hide (And.intro y0 (And.intro y1 y2))
            clear hM R5 hgn hG64 z0 z1 z2 y0 y1 y2 hBF HNO HC HB HB3 HV HH3 HQS
            go_wp2_with fail
            go_region_held3 (fun w' => w'.cell? ⟨q, 1, none⟩ = some (.pointer (some ⟨a, 0, none⟩)) ∧ w'.cell? ⟨q, 2, none⟩ = some (.int .i64 h.gen))
              (first | assumption | exact ⟨c1, c2⟩ | exact ⟨d1, d2⟩)
              (first
                | (go_at_call 94; go_split_ands; refine (L5.rtake_any h.gen (unhide HG64) _ (unhide HH5).al).mono ?_; rintro e w6 ⟨rfl, ha6, hm6⟩; have R6 := (unhide HH5).alloc hm6 ha6 (length_take _ _); have d1 := R6.cell1; have d2 : w6.cell? ⟨q, 2, none⟩ = some (.int .i64 h.gen) := R6.cell2; have HH6 := hide R6; have HM6 := hide hm6; clear R6 ha6 hm6))
            clear c1 c2 d1 d2
            by_cases hT : L5.takeE h.al = 0
            · obtain ⟨i, hi, hn⟩ := take_here hT
              have hin := (take_at hi h.gen).1
              have hfew := (unhide HH6).al.ok.few
              have hi4 : 2 + i < 4096 := by unfold L5.In at hin; rw [length_take] at hfew; omega
              have HI4 := hide hi4
              have HTE := hide hT
              rw [hT]
              obtain ⟨N, hN⟩ : ∃ x, x = L5.takeN 2 h.al := ⟨_, rfl⟩
              rw [← hN]
              have HNE := hide hN
              have HNI : Hid (N = ((2 + i : Nat) : Int)) := by show N = _; rw [hN, hn]; omega
              clear hi hn hin hfew hi4 hT hN
              obtain ⟨y0, y1, y2⟩ := unhide HY5
              have y0' := cellsM (unhide HM6) (show wr.drew.cell? _ = _ from y0) (fun hx => unhide HBF (by simp at hx; simp [rfoot, hx]))
              have y1' := cellsM (unhide HM6) (show wr.drew.cell? _ = _ from y1) (fun hx => unhide HBF (by simp at hx; simp [rfoot, hx]))
              have y2' := cellsM (unhide HM6) (show wr.drew.cell? _ = _ from y2) (fun hx => unhide HBF (by simp at hx; simp [rfoot, hx]))
              have c2 : w6.cell? ⟨q, 2, none⟩ = some (.int .i64 h.gen) := (unhide HH6).cell2
              have hkn : (if n.leaf then (1 : Int) else 2) = ((kindN n : Nat) : Int) := by unfold kindN; split <;> rfl
              have HKN := hide hkn
              have HH7 : Hid (RhAt w6.drew q r { h with al := L5.takeM h.al h.gen } a g fr kv) := (unhide HH6).grow (below_drew w6)
              have HM7 : Hid (Moves (rfoot q a g fr) w w6.drew) := ((L5.Moves.of_below _ (unhide HB5)).then ((unhide HM6).mono (fun x hx => .inl (by simp at hx; simp [rfoot, hx])))).then (L5.Moves.of_below _ (below_drew w6))
              have HV7 : Hid (Ints w6.drew (.slice a0 ks.length cap0) ks) := ((unhide HV5).same (fun b hb => (unhide HM6).block b ((unhide HV5).lt b hb) (fun hx => (unhide HH5).row (unhide HV5) hb (by simp at hx; simp [rfoot, hx])))).grow (below_drew w6)
              have hSX : (L4.wrapR ((kindN n : Nat) : Int) h.gen Y).1 = sectorN h.gen n := by unfold sectorN; rw [unhide HY]
              have HSX := hide hSX
              clear y0 y1 y2 hkn hSX HH5 HH6 HM6 HV5 HB5 HY5
              go_wp2_with fail
              go_region_held3 (fun w' => w'.cell? ⟨q, 2, none⟩ = some (.int .i64 h.gen) ∧ w'.cell? ⟨B, 0, none⟩ = some (.bool n.leaf) ∧ w'.cell? ⟨B, 1, none⟩ = some (.slice ai n.its.length ci) ∧ w'.cell? ⟨B, 2, none⟩ = some (.slice ak n.kds.length ck))
                (first | assumption | exact ⟨c2, y0', y1', y2'⟩ | exact ⟨d2, s0, s1, s2⟩ | exact unhide HS9)
                (first
                  | (go_at_call 96; go_split_ands; refine (rkind_any n.leaf _ _ _).mono ?_; rintro e w8 ⟨rfl, hb8⟩; rw [unhide HKN]; have R8 := (unhide HH7).grow hb8; have d2 : w8.cell? ⟨q, 2, none⟩ = some (.int .i64 h.gen) := R8.cell2; have s0 := (hb8.cell (World.block_lt_of_cell? _ _ (show w6.drew.cell? _ = _ from y0'))).trans y0'; have s1 := (hb8.cell (World.block_lt_of_cell? _ _ (show w6.drew.cell? _ = _ from y1'))).trans y1'; have s2 := (hb8.cell (World.block_lt_of_cell? _ _ (show w6.drew.cell? _ = _ from y2'))).trans y2'; have HH8 := hide R8; have HB8 := hide hb8; clear R8 hb8)
                  | (go_at_call 95; go_split_ands; refine (L4.rwrap_any ((kindN n : Nat) : Int) h.gen Y _ (unhide HH8).tab).mono ?_; rintro e w9 ⟨rfl, hb9⟩; have HS9 := hide (And.intro ((hb9.cell (World.block_lt_of_cell? _ _ d2)).trans d2) (And.intro ((hb9.cell (World.block_lt_of_cell? _ _ s0)).trans s0) (And.intro ((hb9.cell (World.block_lt_of_cell? _ _ s1)).trans s1) ((hb9.cell (World.block_lt_of_cell? _ _ s2)).trans s2)))); rw [unhide HSX]; have HB9 := hide (below_then (unhide HB8) hb9); clear hb9))
              clear c2 d2 s0 s1 s2 y0' y1' y2' HS9
              have R9 := (unhide HH7).grow (unhide HB9)
              have c0 := R9.cell0
              have HH9 := hide R9
              have HM9 := hide ((unhide HM7).then (L5.Moves.of_below _ (unhide HB9)))
              have HV9 := hide ((unhide HV7).grow (unhide HB9))
              clear R9 HH7 HH8 HB8 HM7 HV7 HB9
              obtain ⟨S, hS⟩ : ∃ x, x = sectorN h.gen n := ⟨_, rfl⟩
              rw [← hS]
              have HSE := hide hS
              clear hS
              go_wp2_with fail
              refine (L3.rwrite_any N S fr w9 (unhide HH9).dk (unhide HOP)).mono ?_
              rintro e w10 ⟨rfl, ht⟩
              obtain ⟨fr', R10, hm10, hf10⟩ := (unhide HH9).disk ht (old_write _ _ _)
              have HM10 : Hid (Moves (rfoot q a g fr) w w10) := (unhide HM9).then (hm10.mono (fun x hx => .inl (by simp [rfoot, hx])))
              have HF10 : Hid (∀ x ∈ rfoot q a g fr', x ∈ rfoot q a g fr ∨ w.heap.size ≤ x) := by
                intro x hx
                simp only [rfoot, List.mem_cons] at hx ⊢
                rcases hx with h4 | h4 | h4 | h4
                · exact .inl (.inl h4)
                · exact .inl (.inr (.inl h4))
                · exact .inl (.inr (.inr (.inl h4)))
                · rcases hf10 x h4 with h5 | h5
                  · exact .inl (.inr (.inr (.inr h5)))
                  · exact .inr (Nat.le_trans (unhide HM9).size h5)
              have HV10 : Hid (Ints w10 (.slice a0 ks.length cap0) ks) := (unhide HV9).same (fun b hb => hm10.block b ((unhide HV9).lt b hb) (fun hx => (unhide HH9).row (unhide HV9) hb (by simp [rfoot, hx])))
              have c1 := R10.cell1
              have c2 : w10.cell? ⟨q, 2, none⟩ = some (.int .i64 h.gen) := R10.cell2
              have HH10 := hide R10
              clear ht R10 hm10 hf10 HH9 HM9 HV9 c0
              by_cases hW : L3.writeE h.dk N S = 0
              · rw [hW]
                have hst : storeR h (sectorN h.gen n) = (N, 0, { h with dk := L3.writeM h.dk N S, al := L5.takeM h.al h.gen }) := by
                  unfold storeR
                  rw [← unhide HSE, ← unhide HNE, if_neg (fun hn => hn (unhide HTE)), if_neg (fun hn => hn hW)]
                have hD : putR h n = (N, 0, { dk := L3.writeM h.dk N S, al := holdAll (L5.takeM h.al h.gen) ks, gen := h.gen, kids := setK h.kids (2 + i) ks }) := by
                  unfold putR
                  have e : N.toNat = 2 + i := by rw [unhide HNI]; exact Int.toNat_natCast _
                  rw [if_neg (fun hn => hn (unhide HE)), if_neg (fun hn => hn (unhide HM)), hst, if_neg (by simp)]
                  simp only [e, ← unhide HKS]
                have HD := hide hD
                clear hW hst hD c1 c2
                go_wp2_with fail
                go_loopw [17] (fun t wr => ∃ k : Nat, k ≤ ks.length ∧ t = .int .i64 (k : Int) ∧ RhAt wr q r { dk := L3.writeM h.dk N S, al := holdAll (L5.takeM h.al h.gen) (ks.take k), gen := h.gen, kids := h.kids } a g fr' kv ∧ Moves (rfoot q a g fr) w wr ∧ Ints wr (.slice a0 ks.length cap0) ks) (fun t _ => ks.length - (intOf t).toNat)
                case atStart => exact ⟨0, Nat.zero_le _, rfl, unhide HH10, unhide HM10, unhide HV10⟩
                case round =>
                  clear HH10 HM10 HV10
                  obtain ⟨k, hk, rfl, hR, hM, hV⟩ := hrel
                  have hL := unhide HLEN
                  by_cases hlt : k < ks.length
                  · obtain ⟨gb, rfl, hcell⟩ := hV.at k hlt
                    have hx := unhide HPX _ (List.getElem_mem hlt)
                    have hI : L5.I64 ks[k] := by unfold L5.I64; omega
                    have hlt' : (k : Int) < (ks.length : Int) := by omega
                    have c1 := hR.cell1
                    have HR0 := hide hR
                    have HR : Hid (RhAt wr.drew q r { dk := L3.writeM h.dk N S, al := holdAll (L5.takeM h.al h.gen) (ks.take k), gen := h.gen, kids := h.kids } a g fr' kv) := hR.grow (below_drew wr)
                    have HI := hide hI
                    have HMV := hide hM
                    have HVV := hide hV
                    obtain ⟨X, hX⟩ : ∃ y, y = ks[k] := ⟨_, rfl⟩
                    rw [← hX] at hcell HI
                    have HXE := hide hX
                    clear hR hI hM hV hx hX
                    go_wp2_with fail
                    go_region_held3 (fun w' => w'.cell? ⟨q, 1, none⟩ = some (.pointer (some ⟨a, 0, none⟩)) ∧ w'.cell? ⟨gb, k, none⟩ = some (.int .i64 X))
                      (first | assumption | exact ⟨c1, hcell⟩ | exact ⟨d1, dcell⟩)
                      (first
                        | (go_at_call 99; go_split_ands; refine (L5.rhold_any X _ (unhide HR).al (unhide HI)).mono ?_; rintro e w11 ⟨rfl, ha, hm⟩; have R11 := (unhide HR).alloc hm ha (length_hold _ _); have d1 := R11.cell1; have dcell := cellsM hm (show wr.drew.cell? _ = _ from hcell) (fun hx => (unhide HR0).row (unhide HVV) rfl (by simp at hx; simp [rfoot, hx])); have HX11 := hide (And.intro R11 hm); clear ha hm R11))
                    all_goals
                      clear c1 hcell
                      go_wp2
                      go_roundw
                      case rel =>
                        obtain ⟨R11, hm⟩ := unhide HX11
                        have e1 : holdAll (L5.takeM h.al h.gen) (ks.take (k + 1)) = L5.holdM 2 (holdAll (L5.takeM h.al h.gen) (ks.take k)) X := by
                          rw [List.take_add_one, List.getElem?_eq_getElem hlt, ← unhide HXE]
                          unfold holdAll
                          rw [List.foldl_append]
                          rfl
                        refine ⟨k + 1, by omega, by go_num, ?_, ?_, ?_⟩
                        · rw [e1]
                          exact R11
                        · exact ((unhide HMV).then (L5.Moves.of_below _ (below_drew wr))).then (hm.mono (fun x hx => .inl (by simp at hx; simp [rfoot, hx])))
                        · exact ((unhide HVV).grow (below_drew wr)).same (fun b hb => hm.block b ((unhide HVV).lt b hb) (fun hx => (unhide HR0).row (unhide HVV) hb (by simp at hx; simp [rfoot, hx])))
                      case measure => simp [intOf]; omega
                  · obtain rfl : k = ks.length := by omega
                    rw [List.take_length] at hR
                    have hlt' : ¬ (ks.length : Int) < (ks.length : Int) := by omega
                    obtain ⟨v0, hv0, _⟩ := hR.kidAt (unhide HI4)
                    have ck0 := hR.cellK hv0
                    have fk := hR.free (3 + (2 + i))
                    have HR := hide hR
                    have HMV := hide hM
                    have HVV := hide hV
                    have hN0 : (0 : Int) ≤ N := by rw [unhide HNI]; omega
                    have hN1 : N < 4096 := by rw [unhide HNI]; have := unhide HI4; omega
                    have hNt : N.toNat = 2 + i := by rw [unhide HNI]; exact Int.toNat_natCast _
                    clear hR hM hV hv0 hlt
                    go_wp2
                    go_ret2
                    rw [unhide HD]
                    have hK := (unhide HR).setK (i := 2 + i) (unhide HVV)
                    refine ⟨rfl, _, ⟨r, a, g, fr', _, hK, rfl⟩, (unhide HMV).then (L5.Moves.set _ _ _ _ (by simp [rfoot])), unhide HF10⟩
              · have hst : storeR h (sectorN h.gen n) = (0, L3.writeE h.dk N S, { h with dk := L3.writeM h.dk N S, al := L5.dropM 2 (L5.takeM h.al h.gen) N h.gen }) := by
                  unfold storeR
                  rw [← unhide HSE, ← unhide HNE, if_neg (fun hn => hn (unhide HTE)), if_pos hW]
                have hD : putR h n = (0, L3.writeE h.dk N S, { h with dk := L3.writeM h.dk N S, al := L5.dropM 2 (L5.takeM h.al h.gen) N h.gen }) := by
                  unfold putR
                  rw [if_neg (fun hn => hn (unhide HE)), if_neg (fun hn => hn (unhide HM)), hst, if_pos hW]
                have h1 : (L3.writeE h.dk N S == 0) = false := beq_eq_false_iff_ne.2 hW
                have h2 : (L3.writeE h.dk N S != 0) = true := bne_iff_ne.2 hW
                obtain ⟨E, hEE⟩ : ∃ x, x = L3.writeE h.dk N S := ⟨_, rfl⟩
                rw [← hEE] at h1 h2 hD ⊢
                have HD := hide hD
                have hI : L5.I64 N := by rw [unhide HNI]; unfold L5.I64; have := unhide HI4; omega
                have HI := hide hI
                have HH11 : Hid (RhAt w10.drew q r { h with dk := L3.writeM h.dk N S, al := L5.takeM h.al h.gen } a g fr' kv) := (unhide HH10).grow (below_drew w10)
                clear hW hst hEE hD hI
                go_wp2_with fail
                go_region_held3 (fun w' => w'.cell? ⟨q, 1, none⟩ = some (.pointer (some ⟨a, 0, none⟩)) ∧ w'.cell? ⟨q, 2, none⟩ = some (.int .i64 h.gen))
                  (first | assumption | exact ⟨c1, c2⟩ | exact ⟨d1, d2⟩)
                  (first
                    | (go_at_call 98; go_split_ands; refine (L5.rdrop_any N h.gen _ (unhide HH11).al (unhide HI) (unhide HG64)).mono ?_; rintro e w12 ⟨rfl, ha, hm⟩; have R12 := (unhide HH11).alloc hm ha (length_drop _ _ _); have d1 := R12.cell1; have d2 : w12.cell? ⟨q, 2, none⟩ = some (.int .i64 h.gen) := R12.cell2; have HX12 := hide (And.intro R12 hm); clear R12 ha hm))
                all_goals
                  clear c1 c2 d1 d2
                  go_wp2
                  go_ret2
                  rw [unhide HD]
                  obtain ⟨R12, hm⟩ := unhide HX12
                  refine ⟨rfl, _, ⟨r, a, g, fr', kv, R12, rfl⟩, ((unhide HM10).then (L5.Moves.of_below _ (below_drew w10))).then (hm.mono (fun x hx => .inl (by simp at hx; simp [rfoot, hx]))), unhide HF10⟩
            · have hD : putR h n = (0, L5.takeE h.al, h) := by
                have hs : storeR h (sectorN h.gen n) = (0, L5.takeE h.al, h) := by unfold storeR; rw [if_pos hT]
                unfold putR
                rw [if_neg (fun hn => hn (unhide HE)), if_neg (fun hn => hn (unhide HM)), hs, if_pos hT]
              have hTM : L5.takeM h.al h.gen = h.al := by
                unfold L5.takeE at hT
                unfold L5.takeM
                cases hi : L5.takeI h.al with
                | none => rfl
                | some i => rw [hi] at hT; exact absurd rfl hT
              have h1 : (L5.takeE h.al == 0) = false := beq_eq_false_iff_ne.2 hT
              have h2 : (L5.takeE h.al != 0) = true := bne_iff_ne.2 hT
              obtain ⟨E, hEE⟩ : ∃ x, x = L5.takeE h.al := ⟨_, rfl⟩
              rw [← hEE] at h1 h2 hD ⊢
              have HD := hide hD
              have HTM := hide hTM
              clear hT hEE hD hTM
              go_wp2
              go_ret2
              rw [unhide HD]
              have h6 := unhide HH6
              rw [unhide HTM] at h6
              refine ⟨rfl, _, ⟨r, a, g, fr, kv, h6, rfl⟩, (L5.Moves.of_below _ (unhide HB5)).then ((unhide HM6).mono (fun x hx => .inl (by simp at hx; simp [rfoot, hx]))), fun x hx => .inl hx⟩
  · have hD : putR h n = (0, ((L6.encodeN n).2 : Int), h) := by unfold putR; rw [if_pos hE]
    have hE1 : (((L6.encodeN n).2 : Int) == 0) = false := beq_eq_false_iff_ne.2 (by omega)
    have hE2 : (((L6.encodeN n).2 : Int) != 0) = true := bne_iff_ne.2 (by omega)
    obtain ⟨E, hEE⟩ : ∃ x : Int, x = ((L6.encodeN n).2 : Int) := ⟨_, rfl⟩
    rw [← hEE] at hE1 hE2 hD
    have HD := hide hD
    have HEE := hide hEE
    clear hE hEE hD hB
    go_enter Tryz.func36, Tryz.ntmps36
    go_wp2_with (go_at_call 92; refine (L6.refEncode_any n ai ak ci ck _ (unhide HN) (unhide HIL) (unhide HKL)).mono ?_; rintro x w2 ⟨rfl, hb2⟩; rw [← unhide HEE]; have HB2 := hide (below_then (unhide HB) hb2); clear hb2)
    go_ret2
    rw [unhide HD]
    exact ⟨rfl, (unhide HH0).stays (unhide HB2)⟩
end Go.Proofs.YtlmgmdnmghgkbaaGreatDoor
