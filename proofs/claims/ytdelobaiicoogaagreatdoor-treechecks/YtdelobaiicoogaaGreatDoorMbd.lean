/- Texts that the proof needs, one behind the other. -/
import Derived.Test.YtdelobaiicoogaaGreatDoorMav
import Derived.Test.YtdelobaiicoogaaGreatDoorMba
import Derived.Test.YtdelobaiicoogaaGreatDoorMbc
/- The document's heap: kind, kidsOf, read, Get, Hold, Settle. -/
namespace Go.Proofs.YtdelobaiicoogaaGreatDoor
open Go.ChangeShapes Go.WideShapes Go.ChangeAt Go.RowKit
variable {w w' : World} {q r : Nat} {h : Hp} {a g : Nat} {fr : List Nat} {kv : List Value} {F : List Nat}

set_option maxHeartbeats 400000 in
theorem rkind_any (L : Bool) (v1 v2 : Value) (w : World) : Calls Tryz.prog 35 #[.agg #[.bool L, v1, v2]] w fun e w' => e = .returned (.int .i64 (if L then 1 else 2)) ∧ Below w.heap.size w w' := by
  cases L with
  | true =>
    go_enter Tryz.func35, Tryz.ntmps35
    go_wp2
    go_ret
    exact ⟨rfl, below_alloc _ _⟩
  | false =>
    go_enter Tryz.func35, Tryz.ntmps35
    go_wp2
    go_ret
    exact ⟨rfl, below_alloc _ _⟩

theorem refDecode_any (S : ByteArray) (w : World) (hS : S.size ≤ 4096) : Calls Tryz.prog 143 #[.string S] w fun x w' => L6.DecSaid (L6.decodeN S) w x w' := by
  by_cases h1 : 1007 < S.size ∨ ¬ ((L6.byteR S 0).1 = 1 ∨ (L6.byteR S 0).1 = 2) ∨ 1007 < (L6.shortR (L6.byteR S 0).2.1 (L6.byteR S 0).2.2).1
  · rw [L6.refDec_bad h1]
    exact L6.refDecode_bad S w hS h1
  · have ha : S.size ≤ 1007 := by omega
    have hc : (L6.shortR (L6.byteR S 0).2.1 (L6.byteR S 0).2.2).1 ≤ 1007 := by omega
    by_cases hb : (L6.byteR S 0).1 = 1
    · exact L6.refDecode_items S w ha hb hc
    · exact L6.refDecode_kids S w ha (by omega) hc
theorem openR_small (S : ByteArray) : (L4.openR S).2.2.1.size ≤ 4096 := by
  unfold L4.openR
  split
  · exact Nat.zero_le _
  · split
    · exact Nat.zero_le _
    · unfold L4.blockR
      split
      · rename_i h
        have := h.2.1
        show ByteArray.size _ ≤ _
        rw [ByteArray.size_extract]
        omega
      · exact Nat.zero_le _

set_option maxHeartbeats 4000000 in
set_option maxRecDepth 20000 in
theorem rhread_any (x : Int) (w : World) (H : RhAt w q r h a g fr kv) (hc : h.dk.op.length ≤ 1000000) :
    Calls Tryz.prog 112 #[.pointer (some ⟨q, 0, none⟩), .int .i64 x] w fun e w' => FetchSaid (fetchM h.dk x) w e w' := by
  have HP := hide (L6.Nblk.new w false none none 0 0 0 0)
  have hb1 := below_alloc w (.cells #[.bool false, .slice none 0 0, .slice none 0 0] 38)
  have HB := hide hb1
  have H1 := H.grow hb1
  have c0' := H1.cell0
  have HH := hide H1
  have HR := hide (Nat.le_refl w.heap.size)
  have HC := hide hc
  clear hb1 H H1 hc
  obtain ⟨P, hP⟩ : ∃ x, x = w.heap.size := ⟨_, rfl⟩
  go_enter Tryz.func112, Tryz.ntmps112
  go_wp2_with fail
  rw [← hP] at HP ⊢
  have HPE := hide hP
  have HRP : Hid (w.heap.size ≤ P) := Nat.le_of_eq hP.symm
  clear hP HR
  have HR := HRP
  clear HRP
  generalize w.alloc (.cells #[.bool false, .slice none 0 0, .slice none 0 0] 38) = w1 at *
  obtain ⟨ov, pv, hD, _⟩ := (unhide HH).dk
  refine (L3.rread_any x w1 hD (unhide HC)).mono ?_
  clear hD
  rintro e w2 ⟨rfl, hw2⟩
  rw [hw2]
  clear hw2 w2
  have hp2 := unhide HP
  have c0 := hp2.cell0
  have c1 := hp2.cell1
  have c2 := hp2.cell2
  have f0 := hp2.free 0
  have f1 := hp2.free 1
  have f2 := hp2.free 2
  have HP2 := hide hp2
  have HB2 := hide (unhide HB)
  clear hp2 HP HB HH HC
  by_cases hr : (L3.readM h.dk x).2 = 0
  · have hD : fetchM h.dk x = nodeOf (L3.readM h.dk x).1 := by unfold fetchM; rw [if_neg (fun hn => hn hr)]
    rw [hr]
    obtain ⟨S, hS⟩ : ∃ y, y = (L3.readM h.dk x).1 := ⟨_, rfl⟩
    rw [← hS] at hD ⊢
    have HDf := hide hD
    clear hD hr hS c0'
    go_wp2_with fail
    refine (L4.ropen_any S w1).mono ?_
    rintro e w3 ⟨rfl, hb3⟩
    unfold L4.opened
    have hsm := openR_small S
    generalize hO : L4.openR S = O at *
    obtain ⟨K, G, Y, eo⟩ := O
    simp only at hsm ⊢
    have hD : nodeOf S = if eo ≠ 0 then (L6.nd0, 0, 70) else if (L6.decodeN Y).2 ≠ 0 then (L6.nd0, 0, 70) else if K ≠ (kindN (L6.decodeN Y).1 : Int) then (L6.nd0, 0, 70) else ((L6.decodeN Y).1, G, 0) := by
      unfold nodeOf
      rw [hO]
    rw [← unhide HDf] at hD
    clear HDf
    have hp3 := (unhide HP2).below hb3
    have HSM := hide hsm
    clear c0 c1 c2 f0 f1 f2 hsm
    have HD := hide hD
    have hB4 := below_alloc w3 (.cells #[.int .i64 K, .int .i64 G, .string Y] 90)
    have HX4 := hide (L4.Box.new w3 (.int .i64 K) (.int .i64 G) (.string Y))
    have HB4 := hide (below_then (below_then (unhide HB2) hb3) hB4)
    have HP4 := hide (hp3.below hB4)
    have HPX := hide hp3.lt
    clear hO hD hb3 hp3 hB4 HB2 HP2
    go_wp2_with fail
    obtain ⟨X, hX⟩ : ∃ x, x = w3.heap.size := ⟨_, rfl⟩
    unfold L4.Box at HX4
    rw [← hX] at HX4 HPX ⊢
    clear hX
    generalize w3.alloc (.cells #[.int .i64 K, .int .i64 G, .string Y] 90) = w4 at *
    refine (refDecode_any Y w4 (unhide HSM)).mono ?_
    rintro e w5 ⟨ai, ak, ci, ck, rfl, hh5, hb5⟩
    obtain ⟨hbx, b0, b1, b2⟩ := unhide HX4
    have hlx : X < w4.heap.size := World.block_lt_of_cell? _ _ b0
    have y0 := (hb5.cell (p := ⟨X, 0, none⟩) hlx).trans b0
    have y1 := (hb5.cell (p := ⟨X, 1, none⟩) hlx).trans b1
    clear hbx b0 b1 b2 HX4 hlx
    have hp5 := (unhide HP4).below hb5
    have HB5 := hide (below_then (unhide HB4) hb5)
    clear hb5 HP4 HB4
    generalize L6.decodeN Y = DN at *
    obtain ⟨n, ed⟩ := DN
    simp only at hh5 HD ⊢
    have hN := L6.Nblk.new w5 n.leaf ai ak n.its.length ci n.kds.length ck
    have hb6 := below_alloc w5 (.cells #[.bool n.leaf, .slice ai n.its.length ci, .slice ak n.kds.length ck] 38)
    have HH6 := hide (hh5.grow hb6)
    have hp6 := hp5.below hb6
    have HB6 := hide (below_then (unhide HB5) hb6)
    have z0 := (hb6.cell (World.block_lt_of_cell? _ _ y0)).trans y0
    have z1 := (hb6.cell (World.block_lt_of_cell? _ _ y1)).trans y1
    have x0 := hN.cell0
    have x1 := hN.cell1
    have x2 := hN.cell2
    have HP6 := hide hp6
    clear hh5 hN hb6 hp6 hp5 HB5 y0 y1
    obtain ⟨Q, hQ⟩ : ∃ x, x = w5.heap.size := ⟨_, rfl⟩
    go_wp2_with fail
    rw [← hQ] at x0 x1 x2 ⊢
    clear hQ
    generalize w5.alloc (.cells #[.bool n.leaf, .slice ai n.its.length ci, .slice ak n.kds.length ck] 38) = w6 at *
    by_cases heo : eo = 0
    · subst heo
      by_cases hd : ed = 0
      · subst hd
        have HD2 : Hid (fetchM h.dk x = if K ≠ (kindN n : Int) then (L6.nd0, 0, 70) else (n, G, 0)) := by
          have := unhide HD
          rw [if_neg (by simp), if_neg (by simp)] at this
          exact this
        clear HD
        obtain ⟨KN, hKN⟩ : ∃ x : Int, x = (if n.leaf then 1 else 2) := ⟨_, rfl⟩
        have HKN := hide hKN
        have hKe : (kindN n : Int) = KN := by rw [hKN]; unfold kindN; split <;> rfl
        have HKE := hide hKe
        clear hKN hKe
        by_cases hK : K = KN
        · have HD : Hid (fetchM h.dk x = (n, G, 0)) := by
            have := unhide HD2
            rw [if_neg (fun hn => hn (by rw [unhide HKE]; exact hK))] at this
            exact this
          clear HD2
          have hK1 : (K == KN) = true := by rw [hK]; simp
          have hK2 : (K != KN) = false := by rw [hK]; simp
          clear hK
          go_region_held3 (fun w' => w'.cell? ⟨X, 0, none⟩ = some (.int .i64 K) ∧ w'.cell? ⟨Q, 0, none⟩ = some (.bool n.leaf) ∧ w'.cell? ⟨Q, 1, none⟩ = some (.slice ai n.its.length ci) ∧ w'.cell? ⟨Q, 2, none⟩ = some (.slice ak n.kds.length ck))
            (first | assumption | exact ⟨z0, x0, x1, x2⟩ | exact ⟨k0, m0, m1, m2⟩)
            (first
              | (go_at_call 35; go_split_ands; refine (rkind_any n.leaf _ _ _).mono ?_; rintro e w7 ⟨rfl, hb7⟩; rw [← unhide HKN]; have k0 := (hb7.cell (World.block_lt_of_cell? _ _ (show w6.drew.cell? _ = _ from z0))).trans z0; have m0 := (hb7.cell (World.block_lt_of_cell? _ _ (show w6.drew.cell? _ = _ from x0))).trans x0; have m1 := (hb7.cell (World.block_lt_of_cell? _ _ (show w6.drew.cell? _ = _ from x1))).trans x1; have m2 := (hb7.cell (World.block_lt_of_cell? _ _ (show w6.drew.cell? _ = _ from x2))).trans x2; have HB7 := hide (below_then (below_drew w6) hb7); clear hb7))
          have hp7 := (unhide HP6).below (unhide HB7)
          have c0 := hp7.cell0
          have c1 := hp7.cell1
          have c2 := hp7.cell2
          have f0 := hp7.free 0
          have f1 := hp7.free 1
          have f2 := hp7.free 2
          have HP7 := hide hp7
          have HH7 := hide ((unhide HH6).grow (unhide HB7))
          have HB8 := hide (below_then (unhide HB6) (unhide HB7))
          have u1 := ((unhide HB7).cell (World.block_lt_of_cell? _ _ z1)).trans z1
          clear hp7 z0 z1 x0 x1 x2
          have hne : X ≠ P := by have := unhide HPX; omega
          have hne' : P ≠ X := fun e => hne e.symm
          go_wp2_with fail
          go_region
          go_wp2
          have hst := (unhide HP7).store n.leaf ai n.its.length ci ak n.kds.length ck (unhide HH7)
          refine bodyPost_ret (v := .tuple #[.agg #[.bool n.leaf, .slice ai n.its.length ci, .slice ak n.kds.length ck], .int .i64 G, .int .i64 0]) ?_ rfl ?_
          · rw [results_cell_tmp2 rfl]
            go_simp
          · rw [unhide HD]
            exact ⟨ai, ak, ci, ck, rfl, hst.2.grow (below_drew _), (L6.below_store (L6.below_store (L6.below_store (unhide HB8) P 0 _ (unhide HR)) P 1 _ (unhide HR)) P 2 _ (unhide HR)).drew⟩
        · have HD : Hid (fetchM h.dk x = (L6.nd0, 0, 70)) := by
            have := unhide HD2
            rw [if_pos (fun hn => hK (by rw [← unhide HKE]; exact hn))] at this
            exact this
          have hK1 : (K == KN) = false := beq_eq_false_iff_ne.2 hK
          have hK2 : (K != KN) = true := bne_iff_ne.2 hK
          clear HD2 hK
          go_region_held3 (fun w' => w'.cell? ⟨X, 0, none⟩ = some (.int .i64 K) ∧ w'.cell? ⟨Q, 0, none⟩ = some (.bool n.leaf) ∧ w'.cell? ⟨Q, 1, none⟩ = some (.slice ai n.its.length ci) ∧ w'.cell? ⟨Q, 2, none⟩ = some (.slice ak n.kds.length ck))
            (first | assumption | exact ⟨z0, x0, x1, x2⟩ | exact ⟨k0, m0, m1, m2⟩)
            (first
              | (go_at_call 35; go_split_ands; refine (rkind_any n.leaf _ _ _).mono ?_; rintro e w7 ⟨rfl, hb7⟩; rw [← unhide HKN]; have k0 := (hb7.cell (World.block_lt_of_cell? _ _ (show w6.drew.cell? _ = _ from z0))).trans z0; have m0 := (hb7.cell (World.block_lt_of_cell? _ _ (show w6.drew.cell? _ = _ from x0))).trans x0; have m1 := (hb7.cell (World.block_lt_of_cell? _ _ (show w6.drew.cell? _ = _ from x1))).trans x1; have m2 := (hb7.cell (World.block_lt_of_cell? _ _ (show w6.drew.cell? _ = _ from x2))).trans x2; have HB7 := hide (below_then (below_drew w6) hb7); clear hb7))
          have hp7 := (unhide HP6).below (unhide HB7)
          have c0 := hp7.cell0
          have c1 := hp7.cell1
          have c2 := hp7.cell2
          have f0 := hp7.free 0
          have f1 := hp7.free 1
          have f2 := hp7.free 2
          have HP7 := hide hp7
          have HH7 := hide ((unhide HH6).grow (unhide HB7))
          have HB8 := hide (below_then (unhide HB6) (unhide HB7))
          have u1 := ((unhide HB7).cell (World.block_lt_of_cell? _ _ z1)).trans z1
          clear hp7 z0 z1 x0 x1 x2
          go_wp2
          have hst := (unhide HP7).store false none 0 0 none 0 0 (m := L6.nd0) (bi := none) (bk := none) ⟨.inl rfl, .inl rfl⟩
          refine bodyPost_ret (v := .tuple #[.agg #[.bool false, .slice none 0 0, .slice none 0 0], .int .i64 0, .int .i64 70]) ?_ rfl ?_
          · rw [results_cell_tmp2 rfl]
            go_simp
          · rw [unhide HD]
            exact ⟨none, none, 0, 0, rfl, hst.2, L6.below_store (L6.below_store (L6.below_store (unhide HB8) P 0 _ (unhide HR)) P 1 _ (unhide HR)) P 2 _ (unhide HR)⟩
      · have hd1 : ((ed : Int) == 0) = false := beq_eq_false_iff_ne.2 (by omega)
        have hd2 : ((ed : Int) != 0) = true := bne_iff_ne.2 (by omega)
        have HD2 : Hid (fetchM h.dk x = (L6.nd0, 0, 70)) := by
          have := unhide HD
          rw [if_neg (by simp), if_pos hd] at this
          exact this
        clear HD hd
        have HD := HD2
        clear HD2
        go_quiet (fail)
        rename_i nq
        have hp7 : L6.Nblk (w6.drewN nq) P false none 0 0 none 0 0 := unhide HP6
        have c0 := hp7.cell0
        have c1 := hp7.cell1
        have c2 := hp7.cell2
        have f0 := hp7.free 0
        have f1 := hp7.free 1
        have f2 := hp7.free 2
        have HP7 := hide hp7
        have HB8 : Hid (Below w.heap.size w (w6.drewN nq)) := below_then (unhide HB6) ⟨rfl, rfl, rfl, Nat.le_refl _, fun _ _ => rfl⟩
        clear hp7 z0 z1 x0 x1 x2
        go_wp2
        have hst := (unhide HP7).store false none 0 0 none 0 0 (m := L6.nd0) (bi := none) (bk := none) ⟨.inl rfl, .inl rfl⟩
        refine bodyPost_ret (v := .tuple #[.agg #[.bool false, .slice none 0 0, .slice none 0 0], .int .i64 0, .int .i64 70]) ?_ rfl ?_
        · rw [results_cell_tmp2 rfl]
          go_simp
        · rw [unhide HD]
          exact ⟨none, none, 0, 0, rfl, hst.2, L6.below_store (L6.below_store (L6.below_store (unhide HB8) P 0 _ (unhide HR)) P 1 _ (unhide HR)) P 2 _ (unhide HR)⟩
    · have hd1 : ((eo : Int) == 0) = false := beq_eq_false_iff_ne.2 (by omega)
      have hd2 : ((eo : Int) != 0) = true := bne_iff_ne.2 (by omega)
      have HD2 : Hid (fetchM h.dk x = (L6.nd0, 0, 70)) := by
        have := unhide HD
        rw [if_pos heo] at this
        exact this
      clear HD heo
      have HD := HD2
      clear HD2
      go_quiet (fail)
      rename_i nq
      have hp7 : L6.Nblk (w6.drewN nq) P false none 0 0 none 0 0 := unhide HP6
      have c0 := hp7.cell0
      have c1 := hp7.cell1
      have c2 := hp7.cell2
      have f0 := hp7.free 0
      have f1 := hp7.free 1
      have f2 := hp7.free 2
      have HP7 := hide hp7
      have HB8 : Hid (Below w.heap.size w (w6.drewN nq)) := below_then (unhide HB6) ⟨rfl, rfl, rfl, Nat.le_refl _, fun _ _ => rfl⟩
      clear hp7 z0 z1 x0 x1 x2
      go_wp2
      have hst := (unhide HP7).store false none 0 0 none 0 0 (m := L6.nd0) (bi := none) (bk := none) ⟨.inl rfl, .inl rfl⟩
      refine bodyPost_ret (v := .tuple #[.agg #[.bool false, .slice none 0 0, .slice none 0 0], .int .i64 0, .int .i64 70]) ?_ rfl ?_
      · rw [results_cell_tmp2 rfl]
        go_simp
      · rw [unhide HD]
        exact ⟨none, none, 0, 0, rfl, hst.2, L6.below_store (L6.below_store (L6.below_store (unhide HB8) P 0 _ (unhide HR)) P 1 _ (unhide HR)) P 2 _ (unhide HR)⟩
  · have hD : fetchM h.dk x = (L6.nd0, 0, (L3.readM h.dk x).2) := by unfold fetchM; rw [if_pos hr]
    obtain ⟨E, hE⟩ : ∃ y, y = (L3.readM h.dk x).2 := ⟨_, rfl⟩
    rw [← hE] at hD hr ⊢
    have HD := hide hD
    clear hE
    have hr1 : (E == 0) = false := beq_eq_false_iff_ne.2 hr
    have hr2 : (E != 0) = true := bne_iff_ne.2 hr
    clear hD hr
    go_wp2
    have hst := (unhide HP2).store false none 0 0 none 0 0 (m := L6.nd0) (bi := none) (bk := none) ⟨.inl rfl, .inl rfl⟩
    refine bodyPost_ret (v := .tuple #[.agg #[.bool false, .slice none 0 0, .slice none 0 0], .int .i64 0, .int .i64 E]) ?_ rfl ?_
    · rw [results_cell_tmp2 rfl]
      go_simp
    · rw [unhide HD]
      exact ⟨none, none, 0, 0, rfl, hst.2, L6.below_store (L6.below_store (L6.below_store (unhide HB2) P 0 _ (unhide HR)) P 1 _ (unhide HR)) P 2 _ (unhide HR)⟩

set_option maxHeartbeats 2000000 in
set_option maxRecDepth 20000 in
theorem rhget_any (x : Int) (hx : L5.I64 x) (w : World) (H : IsRh w q h F) (hc : h.dk.op.length ≤ 1000000) :
    Calls Tryz.prog 73 #[.pointer (some ⟨q, 0, none⟩), .int .i64 x] w fun e w' => GetSaid (getR h x) w e w' := by
  obtain ⟨r, a, g, fr, kv, H, rfl⟩ := H
  have HP := hide (L6.Nblk.new w false none none 0 0 0 0)
  have hb0 := below_alloc w (.cells #[.bool false, .slice none 0 0, .slice none 0 0] 38)
  have H0 := H.grow hb0
  have c1 := H0.cell1
  have HH := hide H0
  have HB := hide hb0
  have HQ := hide hx
  have HC := hide hc
  clear H H0 hb0 hx hc
  by_cases hz : cntL h.al x = 0
  · have hz' : ((L5.cntS (L5.sec 2 h.al x) : Nat) : Int) = 0 := by have : L5.cntS (L5.sec 2 h.al x) = 0 := hz; omega
    have hD : getR h x = (L6.nd0, 51) := by unfold getR; exact if_pos hz
    have HD := hide hD
    clear hz hD
    have hp2 := unhide HP
    go_enter Tryz.func73, Tryz.ntmps73
    go_wp2_with (go_at_call 32; refine (L5.rcount_any x (unhide HQ) _ (unhide HH).al).mono ?_; rintro e w1 ⟨rfl, hb1⟩; rw [hz']; have hp3 := (unhide HP).below hb1; have d0 := hp3.cell0; have d1 := hp3.cell1; have d2 := hp3.cell2; have f0 := hp3.free 0; have f1 := hp3.free 1; have f2 := hp3.free 2; have HP3 := hide hp3; have HB1 := hide (below_then (unhide HB) hb1); clear hb1 hp3)
    have hst := (unhide HP3).store false none 0 0 none 0 0 (m := L6.nd0) (bi := none) (bk := none) ⟨.inl rfl, .inl rfl⟩
    refine bodyPost_ret (v := .tuple #[.agg #[.bool false, .slice none 0 0, .slice none 0 0], .int .i64 51]) ?_ rfl ?_
    · rw [results_cell_tmp rfl]
      go_simp
    · rw [unhide HD]
      exact ⟨none, none, 0, 0, rfl, ⟨.inl rfl, .inl rfl⟩, L6.below_store (L6.below_store (L6.below_store (unhide HB1) w.heap.size 0 _ (Nat.le_refl _)) w.heap.size 1 _ (Nat.le_refl _)) w.heap.size 2 _ (Nat.le_refl _)⟩
  · have hz' : (((L5.cntS (L5.sec 2 h.al x) : Nat) : Int) == 0) = false := beq_eq_false_iff_ne.2 (by have : ¬ L5.cntS (L5.sec 2 h.al x) = 0 := hz; omega)
    have hD : getR h x = ((fetchM h.dk x).1, (fetchM h.dk x).2.2) := by unfold getR; exact if_neg hz
    have HD := hide hD
    obtain ⟨C, hC⟩ : ∃ y, y = ((L5.cntS (L5.sec 2 h.al x) : Nat) : Int) := ⟨_, rfl⟩
    rw [← hC] at hz'
    have HCE := hide hC
    clear hz hD hC
    obtain ⟨P, hP⟩ : ∃ x, x = w.heap.size := ⟨_, rfl⟩
    go_enter Tryz.func73, Tryz.ntmps73
    go_wp2_with (first
      | (go_at_call 32; refine (L5.rcount_any x (unhide HQ) _ (unhide HH).al).mono ?_; rintro e w1 ⟨rfl, hb1⟩; rw [← unhide HCE]; have HB1 := hide hb1; clear hb1))
    rw [← hP] at HP ⊢
    have HPE := hide hP
    clear hP
    refine (rhread_any x w1 ((unhide HH).grow (unhide HB1)) (unhide HC)).mono ?_
    rintro e w2 ⟨ai, ak, ci, ck, rfl, hh2, hb2⟩
    have hp2 := ((unhide HP).below (unhide HB1)).below hb2
    have HB2 := hide (below_then (below_then (unhide HB) (unhide HB1)) hb2)
    generalize fetchM h.dk x = T at *
    obtain ⟨n, G, E⟩ := T
    simp only at hh2 HD ⊢
    have hN := L6.Nblk.new w2 n.leaf ai ak n.its.length ci n.kds.length ck
    have hb3 := below_alloc w2 (.cells #[.bool n.leaf, .slice ai n.its.length ci, .slice ak n.kds.length ck] 38)
    have hp3 := hp2.below hb3
    have HH3 := hide (hh2.grow hb3)
    have HB3 := hide (below_then (unhide HB2) hb3)
    have x0 := hN.cell0
    have x1 := hN.cell1
    have x2 := hN.cell2
    have z0 := hp3.cell0
    have z1 := hp3.cell1
    have z2 := hp3.cell2
    have f0 := hp3.free 0
    have f1 := hp3.free 1
    have f2 := hp3.free 2
    have HP3 := hide hp3
    clear c1 hb2 hp2 hh2 hN hb3 hp3
    go_wp2
    have hst := (unhide HP3).store n.leaf ai n.its.length ci ak n.kds.length ck (unhide HH3)
    refine bodyPost_ret (v := .tuple #[.agg #[.bool n.leaf, .slice ai n.its.length ci, .slice ak n.kds.length ck], .int .i64 E]) ?_ rfl ?_
    · rw [results_cell_tmp rfl]
      go_simp
    · rw [unhide HD]
      have hR : w.heap.size ≤ P := Nat.le_of_eq (unhide HPE).symm
      exact ⟨ai, ak, ci, ck, rfl, hst.2, L6.below_store (L6.below_store (L6.below_store (unhide HB3) P 0 _ hR) P 1 _ hR) P 2 _ hR⟩

end Go.Proofs.YtdelobaiicoogaaGreatDoor

/- The document's heap: kidsOf. -/
namespace Go.Proofs.YtdelobaiicoogaaGreatDoor
open Go.ChangeShapes Go.WideShapes Go.ChangeAt Go.RowKit

set_option maxHeartbeats 2000000 in
set_option maxRecDepth 20000 in
theorem rkids_any (n : L6.Nd) (ai ak : Option Addr) (ci ck : Nat) (w : World) (hn : L6.Has w n ai ak) (hl : n.kds.length ≤ 1100) :
    Calls Tryz.prog 31 #[.agg #[.bool n.leaf, .slice ai n.its.length ci, .slice ak n.kds.length ck]] w fun e w' => ∃ v, e = .returned v ∧ Ints w' v (places n) ∧ (∀ g, v.ownBlock = some g → w.heap.size ≤ g) ∧ Below w.heap.size w w' := by
  have hb0 := below_alloc w (.cells #[.bool n.leaf, .slice ai n.its.length ci, .slice ak n.kds.length ck] 38)
  have q2 : (w.alloc (.cells #[.bool n.leaf, .slice ai n.its.length ci, .slice ak n.kds.length ck] 38)).cell? ⟨w.heap.size, 2, none⟩ = some (.slice ak n.kds.length ck) := by simp
  have HK := hide (hn.grow hb0).2
  have HB0 := hide hb0
  have HL := hide hl
  have HPL : Hid (places n = n.kds.map (fun x => x.2)) := rfl
  clear hn hl hb0
  obtain ⟨P, hP⟩ : ∃ x, x = w.heap.size := ⟨_, rfl⟩
  go_enter Tryz.func31, Tryz.ntmps31
  go_wp2
  rw [← hP] at q2 ⊢
  have HP := hide hP
  clear hP
  generalize w.alloc (.cells #[.bool n.leaf, .slice ai n.its.length ci, .slice ak n.kds.length ck] 38) = w0 at *
  have HQ2 := hide q2
  clear q2
  generalize n.kds = kds at *
  go_loopw [3, 4] (fun s t wr => ∃ (k : Nat) (v : Value), v = s ∧ k ≤ kds.length ∧ t = .int .i64 (k : Int) ∧ Ints wr v ((kds.take k).map (fun x => x.2)) ∧ (∀ g, v.ownBlock = some g → w0.heap.size ≤ g) ∧ Below w0.heap.size w0 wr) (fun s t _ => kds.length - (intOf t).toNat)
  case atStart => exact ⟨0, _, rfl, Nat.zero_le _, rfl, by simpa using Ints.nil _, (fun g hg => by cases hg), Below.refl _ _⟩
  case round =>
    obtain ⟨k, v, rfl, hk, rfl, hI, hg, hb⟩ := hrel
    have c2 := (hb.cell (World.block_lt_of_cell? _ _ (unhide HQ2))).trans (unhide HQ2)
    have HI := hide hI
    have HG := hide hg
    have HB := hide hb
    clear hI hg hb
    by_cases hlt : k < kds.length
    · obtain ⟨b, off, rfl, hr⟩ := ((unhide HK).grow (unhide HB)).at hlt
      obtain ⟨⟨key, pl⟩, hx⟩ := L6.get_some hlt
      obtain ⟨c0, c1⟩ := hr k _ hx
      simp only at c0 c1
      have HX := hide hx
      clear hr hx
      have hlen : ((kds.take k).map (fun x : L6.Kd => x.2)).length = k := by rw [List.length_map, List.length_take]; omega
      have HOw : Hid (wr.ownsRow 0 3 1 v k (((kds.take k).map (fun x : L6.Kd => x.2)).map intV)) := by
        have h1 : Ints _ _ _ := unhide HI
        unfold Ints at h1
        rw [hlen] at h1
        exact h1
      have HLN := hide hlen
      clear hlen
      have hL1 := unhide HL
      have hlt' : (k : Int) < (kds.length : Int) := by omega
      go_wp2_with (first
        | (at_builtin; refine L3.app_gen (wr := wr) (v := v) (n := k) (xs := ((kds.take k).map (fun x : L6.Kd => x.2)).map intV) (news := [.int .i64 pl]) Tryz.underlying71 info3 rfl (by decide) rfl _ _ rfl rfl rfl (unhide HOw) (Nat.zero_le _) rfl (by intro u hu; simp at hu; subst hu; rfl) (by have := unhide HL; omega) (by have := unhide HL; omega) ?_; intro a5 cap5 w5 hown5 hg5 hloc; have HY := hide (And.intro hown5 (And.intro hg5 hloc)); clear hown5 hg5 hloc)
        | go_in)
      go_roundw
      case rel =>
        obtain ⟨hown5, hg5, hloc⟩ := unhide HY
        have e1 : kds.take (k + 1) = kds.take k ++ [(key, pl)] := by rw [List.take_add_one, unhide HX]; rfl
        refine ⟨k + 1, _, rfl, by omega, by go_num, ?_, fun g hg => ?_, ?_⟩
        · unfold Ints
          rw [e1, List.map_append, List.length_append, unhide HLN, List.map_append]
          exact hown5
        · rcases hloc with e | ⟨g', e, hg'⟩
          · rw [e] at hg
            exact unhide HG g hg
          · rw [e] at hg
            cases hg
            exact Nat.le_trans (unhide HB).size hg'
        · have hb := unhide HB
          exact hb.grown hg5 hb.size (fun g hg => unhide HG g hg)
      case measure => simp [intOf]; omega
    · obtain rfl : k = kds.length := by omega
      rw [List.take_length] at HI
      have hlt' : ¬ (kds.length : Int) < (kds.length : Int) := by omega
      go_wp2
      go_ret
      refine ⟨_, rfl, ?_, fun g hg => Nat.le_trans (unhide HB0).size (unhide HG g hg), below_then (unhide HB0) (unhide HB)⟩
      rw [unhide HPL]
      exact unhide HI
end Go.Proofs.YtdelobaiicoogaaGreatDoor
