/- Texts that the proof needs, one behind the other. -/
import Derived.Test.YtdelobaiicoogaaGreatDoorMar
/- What stands in a sector is read: fetch; Get. -/
namespace Go.Proofs.YtdelobaiicoogaaGreatDoor
open Go.ChangeShapes Go.WideShapes Go.ChangeAt Go.RowKit
variable {w w' : World} {p d : Nat} {h : Hp} {c : Nat} {F : List Nat} {a b kb : Nat} {fd : List Nat} {kf : Nat → Option Value}

def FetchSaid (T : L6.Nd × Int × Int) (w : World) (x : Ending) (w' : World) : Prop := ∃ (ai ak : Option Addr) (ci ck : Nat), x = .returned (.tuple #[.agg #[.bool T.1.leaf, .slice ai T.1.its.length ci, .slice ak T.1.kds.length ck], .int .i64 T.2.1, .int .i64 T.2.2]) ∧ L6.Has w' T.1 ai ak ∧ Below w.heap.size w w'

theorem results_cell_tmp2 {fn : Func} {p u v : Tmp} {ty : TypeId} (h : fn.results = #[.cell p ty, .tmp u, .tmp v]) (tmps : Array Value) (P : Program) (w : World) :
    (results fn tmps).run P w =
      ((asAddr (tmps.getD p undef)).run P w).andThen fun a w₁ => ((loadVar ty a).run P w₁).andThen fun x w₂ => .ok (.tuple #[x, tmps.getD u undef, tmps.getD v undef]) w₂ := by
  simp only [results, h]
  simp [Sem.run_bind, Result.andThen]
theorem readM_cases (m : L3.Dk) (q : Int) : (L3.readM m q).2 = 0 ∨ L3.readM m q = (ByteArray.empty, (L3.readM m q).2) := by
  unfold L3.readM
  split
  · exact .inr rfl
  · split
    · exact .inr rfl
    · exact .inl rfl

set_option maxHeartbeats 4000000 in
set_option maxRecDepth 20000 in
theorem fetch_any (q : Int) (w : World) (H : HeapAt w p d h c a b kb fd kf) :
    Calls Tryz.prog 113 #[.agg #[.pointer (some ⟨a, 0, none⟩), .pointer (some ⟨d, 0, none⟩)], .int .i64 q] w fun e w' => FetchSaid (fetchM h.dk q) w e w' := by
  have hb0 := below_alloc w (.cells #[.pointer (some ⟨a, 0, none⟩), .pointer (some ⟨d, 0, none⟩)] 83)
  have q1 : (w.alloc (.cells #[.pointer (some ⟨a, 0, none⟩), .pointer (some ⟨d, 0, none⟩)] 83)).cell? ⟨w.heap.size, 1, none⟩ = some (.pointer (some ⟨d, 0, none⟩)) := by simp
  have HBa := hide hb0
  have HH0 := hide (H.grow hb0)
  clear H hb0
  have hs0 : (w.alloc (.cells #[.pointer (some ⟨a, 0, none⟩), .pointer (some ⟨d, 0, none⟩)] 83)).heap.size = w.heap.size + 1 := World.size_alloc _ _
  obtain ⟨B, hB⟩ : ∃ x, x = w.heap.size := ⟨_, rfl⟩
  have HBE := hide hB
  go_enter Tryz.func113, Tryz.ntmps113
  go_wp2_with fail
  rw [← hB] at q1 hs0 ⊢
  clear hB
  generalize w.alloc (.cells #[.pointer (some ⟨a, 0, none⟩), .pointer (some ⟨d, 0, none⟩)] 83) = w0 at *
  have HP := hide (L6.Nblk.new w0 false none none 0 0 0 0)
  have hb1 := below_alloc w0 (.cells #[.bool false, .slice none 0 0, .slice none 0 0] 38)
  have HB := hide (below_then (unhide HBa) hb1)
  have HH := hide ((unhide HH0).grow hb1)
  have HR := hide (Nat.le_trans (unhide HBa).size (Nat.le_refl w0.heap.size))
  clear hb1
  rw [hs0] at HP HR
  clear hs0
  obtain ⟨P, hP⟩ : ∃ x, x = B + 1 := ⟨_, rfl⟩
  rw [← hP] at HP HR ⊢
  clear hP
  generalize w0.alloc (.cells #[.bool false, .slice none 0 0, .slice none 0 0] 38) = w1 at *
  obtain ⟨fb, lb, ov, hD, _⟩ := (unhide HH).dk
  refine (L3.read_any q w1 hD).mono ?_
  clear hD
  rintro x w2 ⟨rfl, hb2⟩
  have hp2 := (unhide HP).below hb2
  have c0 := hp2.cell0
  have c1 := hp2.cell1
  have c2 := hp2.cell2
  have f0 := hp2.free 0
  have f1 := hp2.free 1
  have f2 := hp2.free 2
  have HP2 := hide hp2
  have HB2 := hide (below_then (unhide HB) hb2)
  have HH2 := hide ((unhide HH).grow hb2)
  clear hb2 hp2 HP HB HH HH0 HBa
  by_cases hr : (L3.readM h.dk q).2 = 0
  · have hD : fetchM h.dk q = nodeOf (L3.readM h.dk q).1 := by unfold fetchM; rw [if_neg (fun hn => hn hr)]
    rw [hr]
    obtain ⟨S, hS⟩ : ∃ x, x = (L3.readM h.dk q).1 := ⟨_, rfl⟩
    rw [← hS] at hD ⊢
    have HDf := hide hD
    clear hD hr hS
    go_wp2_with fail
    refine (L4.open_any S w2 (unhide HH2).tab).mono ?_
    rintro x w3 ⟨rfl, hb3⟩
    unfold L4.opened
    generalize hO : L4.openR S = O at *
    obtain ⟨K, G, Y, eo⟩ := O
    simp only
    have hD : nodeOf S = if eo ≠ 0 then (L6.nd0, 0, 70) else if (L6.decodeN Y).2 ≠ 0 then (L6.nd0, 0, 70) else if K ≠ (kindN (L6.decodeN Y).1 : Int) then (L6.nd0, 0, 70) else ((L6.decodeN Y).1, G, 0) := by
      unfold nodeOf
      rw [hO]
    rw [← unhide HDf] at hD
    clear HDf
    have hp3 := (unhide HP2).below hb3
    clear c0 c1 c2 f0 f1 f2
    by_cases he : eo = 0
    · subst he
      rw [if_neg (by simp)] at hD
      have HD := hide hD
      have hB4 := below_alloc w3 (.cells #[.int .i64 K, .int .i64 G, .string Y] 90)
      have HX4 := hide (L4.Box.new w3 (.int .i64 K) (.int .i64 G) (.string Y))
      have HB4 := hide (below_then (below_then (unhide HB2) hb3) hB4)
      have HP4 := hide (hp3.below hB4)
      have HPX := hide hp3.lt
      clear hO hD hb3 hp3 hB4 HB2 HP2
      go_wp2_with fail
      obtain ⟨X, hX⟩ : ∃ x, x = w3.heap.size := ⟨_, rfl⟩
      unfold L4.Box at HX4
      rw [← hX] at HX4 HPX ⊢
      clear hX
      generalize w3.alloc (.cells #[.int .i64 K, .int .i64 G, .string Y] 90) = w4 at *
      refine (L6.decode_any Y w4).mono ?_
      rintro x w5 ⟨ai, ak, ci, ck, rfl, hh5, hb5⟩
      obtain ⟨hbx, b0, b1, b2⟩ := unhide HX4
      have hlx : X < w4.heap.size := World.block_lt_of_cell? _ _ b0
      have y0 := (hb5.cell (p := ⟨X, 0, none⟩) hlx).trans b0
      have y1 := (hb5.cell (p := ⟨X, 1, none⟩) hlx).trans b1
      clear hbx b0 b1 b2 HX4 hlx
      have hp5 := (unhide HP4).below hb5
      have HB5 := hide (below_then (unhide HB4) hb5)
      clear hb5 HP4 HB4
      generalize L6.decodeN Y = DN at *
      obtain ⟨n, ed⟩ := DN
      simp only at hh5 HD ⊢
      have hN := L6.Nblk.new w5 n.leaf ai ak n.its.length ci n.kds.length ck
      have hb6 := below_alloc w5 (.cells #[.bool n.leaf, .slice ai n.its.length ci, .slice ak n.kds.length ck] 38)
      have HH6 := hide (hh5.grow hb6)
      have hp6 := hp5.below hb6
      have HB6 := hide (below_then (unhide HB5) hb6)
      have z0 := (hb6.cell (World.block_lt_of_cell? _ _ y0)).trans y0
      have z1 := (hb6.cell (World.block_lt_of_cell? _ _ y1)).trans y1
      have x0 := hN.cell0
      have x1 := hN.cell1
      have x2 := hN.cell2
      have c0 := hp6.cell0
      have c1 := hp6.cell1
      have c2 := hp6.cell2
      have f0 := hp6.free 0
      have f1 := hp6.free 1
      have f2 := hp6.free 2
      have HP6 := hide hp6
      clear hh5 hN hb6 hp6 hp5 HB5 y0 y1
      obtain ⟨Q, hQ⟩ : ∃ x, x = w5.heap.size := ⟨_, rfl⟩
      go_wp2_with fail
      rw [← hQ] at x0 x1 x2 ⊢
      clear hQ
      generalize w5.alloc (.cells #[.bool n.leaf, .slice ai n.its.length ci, .slice ak n.kds.length ck] 38) = w6 at *
      by_cases hd : ed = 0
      · subst hd
        have HD2 : Hid (fetchM h.dk q = if K ≠ (kindN n : Int) then (L6.nd0, 0, 70) else (n, G, 0)) := by
          have := unhide HD
          rw [if_neg (by simp)] at this
          exact this
        clear HD c0 c1 c2 f0 f1 f2
        obtain ⟨KN, hKN⟩ : ∃ x : Int, x = (if n.leaf then 1 else 2) := ⟨_, rfl⟩
        have HKN := hide hKN
        have hKe : (kindN n : Int) = KN := by rw [hKN]; unfold kindN; split <;> rfl
        have HKE := hide hKe
        clear hKN hKe
        by_cases hK : K = KN
        · have HD : Hid (fetchM h.dk q = (n, G, 0)) := by
            have := unhide HD2
            rw [if_neg (fun hn => hn (by rw [unhide HKE]; exact hK))] at this
            exact this
          clear HD2
          have hK1 : (K == KN) = true := by rw [hK]; simp
          have hK2 : (K != KN) = false := by rw [hK]; simp
          clear hK
          go_region_held3 (fun w' => w'.cell? ⟨X, 0, none⟩ = some (.int .i64 K) ∧ w'.cell? ⟨Q, 0, none⟩ = some (.bool n.leaf) ∧ w'.cell? ⟨Q, 1, none⟩ = some (.slice ai n.its.length ci) ∧ w'.cell? ⟨Q, 2, none⟩ = some (.slice ak n.kds.length ck))
            (first | assumption | exact ⟨z0, x0, x1, x2⟩ | exact ⟨k0, m0, m1, m2⟩)
            (first
              | (go_at_call 27; go_split_ands; refine (kindOf_any n.leaf _ _ _).mono ?_; rintro e w7 ⟨rfl, hb7⟩; rw [← unhide HKN]; have k0 := (hb7.cell (World.block_lt_of_cell? _ _ (show w6.drew.cell? _ = _ from z0))).trans z0; have m0 := (hb7.cell (World.block_lt_of_cell? _ _ (show w6.drew.cell? _ = _ from x0))).trans x0; have m1 := (hb7.cell (World.block_lt_of_cell? _ _ (show w6.drew.cell? _ = _ from x1))).trans x1; have m2 := (hb7.cell (World.block_lt_of_cell? _ _ (show w6.drew.cell? _ = _ from x2))).trans x2; have HB7 := hide (below_then (below_drew w6) hb7); clear hb7))
          have hp7 := (unhide HP6).below (unhide HB7)
          have c0 := hp7.cell0
          have c1 := hp7.cell1
          have c2 := hp7.cell2
          have f0 := hp7.free 0
          have f1 := hp7.free 1
          have f2 := hp7.free 2
          have HP7 := hide hp7
          have HH7 := hide ((unhide HH6).grow (unhide HB7))
          have HB8 := hide (below_then (unhide HB6) (unhide HB7))
          have u1 := ((unhide HB7).cell (World.block_lt_of_cell? _ _ z1)).trans z1
          clear hp7 z0 z1 x0 x1 x2
          have hne : X ≠ P := by have := unhide HPX; omega
          have hne' : P ≠ X := fun e => hne e.symm
          go_wp2_with fail
          go_region
          go_wp2
          have hst := (unhide HP7).store n.leaf ai n.its.length ci ak n.kds.length ck (unhide HH7)
          refine bodyPost_ret (v := .tuple #[.agg #[.bool n.leaf, .slice ai n.its.length ci, .slice ak n.kds.length ck], .int .i64 G, .int .i64 0]) ?_ rfl ?_
          · rw [results_cell_tmp2 rfl]
            go_simp
          · rw [unhide HD]
            exact ⟨ai, ak, ci, ck, rfl, hst.2.grow (below_drew _), (L6.below_store (L6.below_store (L6.below_store (unhide HB8) P 0 _ (unhide HR)) P 1 _ (unhide HR)) P 2 _ (unhide HR)).drew⟩
        · have HD : Hid (fetchM h.dk q = (L6.nd0, 0, 70)) := by
            have := unhide HD2
            rw [if_pos (fun hn => hK (by rw [← unhide HKE]; exact hn))] at this
            exact this
          have hK1 : (K == KN) = false := beq_eq_false_iff_ne.2 hK
          have hK2 : (K != KN) = true := bne_iff_ne.2 hK
          clear HD2 hK
          go_region_held3 (fun w' => w'.cell? ⟨X, 0, none⟩ = some (.int .i64 K) ∧ w'.cell? ⟨Q, 0, none⟩ = some (.bool n.leaf) ∧ w'.cell? ⟨Q, 1, none⟩ = some (.slice ai n.its.length ci) ∧ w'.cell? ⟨Q, 2, none⟩ = some (.slice ak n.kds.length ck))
            (first | assumption | exact ⟨z0, x0, x1, x2⟩ | exact ⟨k0, m0, m1, m2⟩)
            (first
              | (go_at_call 27; go_split_ands; refine (kindOf_any n.leaf _ _ _).mono ?_; rintro e w7 ⟨rfl, hb7⟩; rw [← unhide HKN]; have k0 := (hb7.cell (World.block_lt_of_cell? _ _ (show w6.drew.cell? _ = _ from z0))).trans z0; have m0 := (hb7.cell (World.block_lt_of_cell? _ _ (show w6.drew.cell? _ = _ from x0))).trans x0; have m1 := (hb7.cell (World.block_lt_of_cell? _ _ (show w6.drew.cell? _ = _ from x1))).trans x1; have m2 := (hb7.cell (World.block_lt_of_cell? _ _ (show w6.drew.cell? _ = _ from x2))).trans x2; have HB7 := hide (below_then (below_drew w6) hb7); clear hb7))
          have hp7 := (unhide HP6).below (unhide HB7)
          have c0 := hp7.cell0
          have c1 := hp7.cell1
          have c2 := hp7.cell2
          have f0 := hp7.free 0
          have f1 := hp7.free 1
          have f2 := hp7.free 2
          have HP7 := hide hp7
          have HH7 := hide ((unhide HH6).grow (unhide HB7))
          have HB8 := hide (below_then (unhide HB6) (unhide HB7))
          have u1 := ((unhide HB7).cell (World.block_lt_of_cell? _ _ z1)).trans z1
          clear hp7 z0 z1 x0 x1 x2
          go_wp2
          have hst := (unhide HP7).store false none 0 0 none 0 0 (m := L6.nd0) (bi := none) (bk := none) ⟨.inl rfl, .inl rfl⟩
          refine bodyPost_ret (v := .tuple #[.agg #[.bool false, .slice none 0 0, .slice none 0 0], .int .i64 0, .int .i64 70]) ?_ rfl ?_
          · rw [results_cell_tmp2 rfl]
            go_simp
          · rw [unhide HD]
            exact ⟨none, none, 0, 0, rfl, hst.2, L6.below_store (L6.below_store (L6.below_store (unhide HB8) P 0 _ (unhide HR)) P 1 _ (unhide HR)) P 2 _ (unhide HR)⟩
      · have hd1 : ((ed : Int) == 0) = false := beq_eq_false_iff_ne.2 (by omega)
        have hd2 : ((ed : Int) != 0) = true := bne_iff_ne.2 (by omega)
        have HD2 : Hid (fetchM h.dk q = (L6.nd0, 0, 70)) := by
          have := unhide HD
          rw [if_pos hd] at this
          exact this
        clear HD hd
        have HD := HD2
        clear HD2
        go_quiet (fail)
        rename_i nq
        have hp7 : L6.Nblk (w6.drewN nq) P false none 0 0 none 0 0 := unhide HP6
        have c0 := hp7.cell0
        have c1 := hp7.cell1
        have c2 := hp7.cell2
        have f0 := hp7.free 0
        have f1 := hp7.free 1
        have f2 := hp7.free 2
        have HP7 := hide hp7
        have HB8 : Hid (Below w.heap.size w (w6.drewN nq)) := below_then (unhide HB6) ⟨rfl, rfl, rfl, Nat.le_refl _, fun _ _ => rfl⟩
        clear hp7 z0 z1 x0 x1 x2
        go_wp2
        have hst := (unhide HP7).store false none 0 0 none 0 0 (m := L6.nd0) (bi := none) (bk := none) ⟨.inl rfl, .inl rfl⟩
        refine bodyPost_ret (v := .tuple #[.agg #[.bool false, .slice none 0 0, .slice none 0 0], .int .i64 0, .int .i64 70]) ?_ rfl ?_
        · rw [results_cell_tmp2 rfl]
          go_simp
        · rw [unhide HD]
          exact ⟨none, none, 0, 0, rfl, hst.2, L6.below_store (L6.below_store (L6.below_store (unhide HB8) P 0 _ (unhide HR)) P 1 _ (unhide HR)) P 2 _ (unhide HR)⟩
    · have her : ((eo : Int) == 0) = false := beq_eq_false_iff_ne.2 (by omega)
      have hen : ((eo : Int) != 0) = true := bne_iff_ne.2 (by omega)
      rw [if_pos he] at hD
      have HD := hide hD
      have HB2' := hide (below_then (unhide HB2) (below_then hb3 (below_alloc w3 (.cells #[.int .i64 K, .int .i64 G, .string Y] 90))))
      have hp4 := hp3.below (below_alloc w3 (.cells #[.int .i64 K, .int .i64 G, .string Y] 90))
      have c0 := hp4.cell0
      have c1 := hp4.cell1
      have c2 := hp4.cell2
      have f0 := hp4.free 0
      have f1 := hp4.free 1
      have f2 := hp4.free 2
      have HP4 := hide hp4
      clear hO hD hb3 hp3 hp4
      go_wp2
      have hst := (unhide HP4).store false none 0 0 none 0 0 (m := L6.nd0) (bi := none) (bk := none) ⟨.inl rfl, .inl rfl⟩
      refine bodyPost_ret (v := .tuple #[.agg #[.bool false, .slice none 0 0, .slice none 0 0], .int .i64 0, .int .i64 70]) ?_ rfl ?_
      · rw [results_cell_tmp2 rfl]
        go_simp
      · rw [unhide HD]
        exact ⟨none, none, 0, 0, rfl, hst.2, L6.below_store (L6.below_store (L6.below_store (unhide HB2') P 0 _ (unhide HR)) P 1 _ (unhide HR)) P 2 _ (unhide HR)⟩
  · have hD : fetchM h.dk q = (L6.nd0, 0, (L3.readM h.dk q).2) := by unfold fetchM; rw [if_pos hr]
    obtain ⟨E, hE⟩ : ∃ x, x = (L3.readM h.dk q).2 := ⟨_, rfl⟩
    rw [← hE] at hD hr ⊢
    have HD := hide hD
    clear hE
    have hr1 : (E == 0) = false := beq_eq_false_iff_ne.2 hr
    have hr2 : (E != 0) = true := bne_iff_ne.2 hr
    clear hD hr
    go_wp2
    have hst := (unhide HP2).store false none 0 0 none 0 0 (m := L6.nd0) (bi := none) (bk := none) ⟨.inl rfl, .inl rfl⟩
    refine bodyPost_ret (v := .tuple #[.agg #[.bool false, .slice none 0 0, .slice none 0 0], .int .i64 0, .int .i64 E]) ?_ rfl ?_
    · rw [results_cell_tmp2 rfl]
      go_simp
    · rw [unhide HD]
      exact ⟨none, none, 0, 0, rfl, hst.2, L6.below_store (L6.below_store (L6.below_store (unhide HB2) P 0 _ (unhide HR)) P 1 _ (unhide HR)) P 2 _ (unhide HR)⟩
end Go.Proofs.YtdelobaiicoogaaGreatDoor

/- Get; Put. -/
namespace Go.Proofs.YtdelobaiicoogaaGreatDoor
open Go.ChangeShapes Go.WideShapes Go.ChangeAt Go.RowKit
variable {w w' : World} {p d : Nat} {h : Hp} {c : Nat} {F : List Nat} {a b kb : Nat} {fd : List Nat} {kf : Nat → Option Value}

def GetSaid (T : L6.Nd × Int) (w : World) (x : Ending) (w' : World) : Prop := ∃ (ai ak : Option Addr) (ci ck : Nat), x = .returned (.tuple #[.agg #[.bool T.1.leaf, .slice ai T.1.its.length ci, .slice ak T.1.kds.length ck], .int .i64 T.2]) ∧ L6.Has w' T.1 ai ak ∧ Below w.heap.size w w'

set_option maxHeartbeats 2000000 in
set_option maxRecDepth 20000 in
theorem hget_any (q : Int) (hq : L5.I64 q) (w : World) (H : IsHeap w p d h c F) :
    Calls Tryz.prog 74 #[.pointer (some ⟨p, 0, none⟩), .int .i64 q] w fun e w' => GetSaid (getR h q) w e w' := by
  obtain ⟨a, b, kb, fd, kf, H, rfl⟩ := H
  have HP := hide (L6.Nblk.new w false none none 0 0 0 0)
  have hb0 := below_alloc w (.cells #[.bool false, .slice none 0 0, .slice none 0 0] 38)
  have H0 := H.grow hb0
  have c0 := H0.cell0
  have c1 := H0.cell1
  have HH := hide H0
  have HB := hide hb0
  have HQ := hide hq
  have HR := hide (Nat.le_refl w.heap.size)
  clear H H0 hb0 hq
  by_cases hz : cntL h.al q = 0
  · have hz' : ((L5.cntS (L5.sec 2 h.al q) : Nat) : Int) = 0 := by have : L5.cntS (L5.sec 2 h.al q) = 0 := hz; omega
    have hD : getR h q = (L6.nd0, 51) := by unfold getR; exact if_pos hz
    have HD := hide hD
    clear hz hD
    go_enter Tryz.func74, Tryz.ntmps74
    go_wp2_with (go_at_call 58; refine (L5.count_any q (unhide HQ) _ (unhide HH).al).mono ?_; rintro e w1 ⟨rfl, hw⟩; rw [hw]; clear hw w1; rw [hz'])
    refine bodyPost_ret (v := .tuple #[.agg #[.bool false, .slice none 0 0, .slice none 0 0], .int .i64 51]) ?_ rfl ?_
    · rw [results_cell_tmp rfl]
      go_simp
    · rw [unhide HD]
      exact ⟨none, none, 0, 0, rfl, ⟨.inl rfl, .inl rfl⟩, unhide HB⟩
  · have hz' : (((L5.cntS (L5.sec 2 h.al q) : Nat) : Int) == 0) = false := beq_eq_false_iff_ne.2 (by have : ¬ L5.cntS (L5.sec 2 h.al q) = 0 := hz; omega)
    have hD : getR h q = ((fetchM h.dk q).1, (fetchM h.dk q).2.2) := by unfold getR; exact if_neg hz
    have HD := hide hD
    obtain ⟨C, hC⟩ : ∃ y, y = ((L5.cntS (L5.sec 2 h.al q) : Nat) : Int) := ⟨_, rfl⟩
    rw [← hC] at hz'
    have HCE := hide hC
    clear hz hD hC
    obtain ⟨P, hP⟩ : ∃ x, x = w.heap.size := ⟨_, rfl⟩
    go_enter Tryz.func74, Tryz.ntmps74
    go_wp2_with (first
      | (go_at_call 58; refine (L5.count_any q (unhide HQ) _ (unhide HH).al).mono ?_; rintro e w1 ⟨rfl, hw⟩; rw [hw]; clear hw w1; rw [← unhide HCE]))
    rw [← hP] at HP ⊢
    have HPE := hide hP
    clear hP
    generalize w.alloc (.cells #[.bool false, .slice none 0 0, .slice none 0 0] 38) = w1 at *
    refine (fetch_any q w1 (unhide HH)).mono ?_
    rintro x w2 ⟨ai, ak, ci, ck, rfl, hh2, hb2⟩
    have hp2 := (unhide HP).below hb2
    have HB2 := hide (below_then (unhide HB) hb2)
    generalize fetchM h.dk q = T at *
    obtain ⟨n, G, E⟩ := T
    simp only at hh2 HD ⊢
    have hN := L6.Nblk.new w2 n.leaf ai ak n.its.length ci n.kds.length ck
    have hb3 := below_alloc w2 (.cells #[.bool n.leaf, .slice ai n.its.length ci, .slice ak n.kds.length ck] 38)
    have hp3 := hp2.below hb3
    have HH3 := hide (hh2.grow hb3)
    have HB3 := hide (below_then (unhide HB2) hb3)
    have x0 := hN.cell0
    have x1 := hN.cell1
    have x2 := hN.cell2
    have z0 := hp3.cell0
    have z1 := hp3.cell1
    have z2 := hp3.cell2
    have f0 := hp3.free 0
    have f1 := hp3.free 1
    have f2 := hp3.free 2
    have HP3 := hide hp3
    clear c0 c1 hb2 hp2 hh2 hN hb3 hp3
    go_wp2
    have hst := (unhide HP3).store n.leaf ai n.its.length ci ak n.kds.length ck (unhide HH3)
    refine bodyPost_ret (v := .tuple #[.agg #[.bool n.leaf, .slice ai n.its.length ci, .slice ak n.kds.length ck], .int .i64 E]) ?_ rfl ?_
    · rw [results_cell_tmp rfl]
      go_simp
    · rw [unhide HD]
      have hR : w.heap.size ≤ P := Nat.le_of_eq (unhide HPE).symm
      exact ⟨ai, ak, ci, ck, rfl, hst.2, L6.below_store (L6.below_store (L6.below_store (unhide HB3) P 0 _ hR) P 1 _ hR) P 2 _ hR⟩
end Go.Proofs.YtdelobaiicoogaaGreatDoor

/- Put. -/
namespace Go.Proofs.YtdelobaiicoogaaGreatDoor
open Go.ChangeShapes Go.WideShapes Go.ChangeAt Go.RowKit
variable {w w' : World} {p d : Nat} {h : Hp} {c : Nat} {F : List Nat} {a b kb : Nat} {fd : List Nat} {kf : Nat → Option Value}

theorem rise_all {β : Type} {may : ByteArray × β → Bool} : ∀ (l : List (ByteArray × β)) (o : Option ByteArray), L6.rise may o l = true → ∀ x ∈ l, may x = true
  | [], _, _, x, hx => by simp at hx
  | y :: t, o, hr, x, hx => by
    cases o with
    | none =>
      simp [L6.rise] at hr
      rcases List.mem_cons.1 hx with rfl | hx
      · exact hr.1
      · exact rise_all t _ hr.2 x hx
    | some q =>
      simp [L6.rise] at hr
      rcases List.mem_cons.1 hx with rfl | hx
      · exact hr.1.1
      · exact rise_all t _ hr.2 x hx
theorem enc_ok {n : L6.Nd} (he : (L6.encodeN n).2 = 0) : L6.checkN n = 0 ∧ L6.encodeN n = (L6.strOf (L6.ndL n), 0) := by
  unfold L6.encodeN at he ⊢
  split at he
  · rename_i h
    exact ⟨h, by rw [if_pos h]⟩
  · rename_i h
    exact absurd he h
theorem enc_size {n : L6.Nd} (he : (L6.encodeN n).2 = 0) : (L6.encodeN n).1.size ≤ 1007 := by
  obtain ⟨h1, h2⟩ := enc_ok he
  rw [h2]
  show (L6.strOf (L6.ndL n)).size ≤ 1007
  rw [L6.strOf_size]
  unfold L6.checkN at h1
  split at h1
  · split at h1
    · omega
    · omega
  · omega
theorem enc_places {n : L6.Nd} (he : (L6.encodeN n).2 = 0) : ∀ x ∈ places n, 2 ≤ x ∧ x < 4096 := by
  have hr := L6.checkN_right (enc_ok he).1
  intro x hx
  obtain ⟨y, hy, rfl⟩ := List.mem_map.1 hx
  unfold L6.rightB at hr
  split at hr
  · simp at hr
    rw [hr.1.1] at hy
    simp at hy
  · simp at hr
    have := rise_all _ _ hr.2 y hy
    simp [L6.mayK] at this
    exact ⟨this.1.2, this.2⟩
theorem mayE_zero {l : List L5.St} {ks : List Int} (h : mayE l ks = 0) : (∀ k ∈ ks, 0 < cntL l k) ∧ ∀ k ∈ ks, cntL l k + ks.count k ≤ 5000 := by
  unfold mayE at h
  split at h
  · exact absurd h (by decide)
  · rename_i h1
    split at h
    · exact absurd h (by decide)
    · rename_i h2
      simp at h1 h2
      exact ⟨fun k hk => Nat.pos_of_ne_zero (h1 k hk), fun k hk => h2 k hk⟩
theorem IsHeap.ints (H : IsHeap w p d h c F) {v : Value} {l : List Int} (hv : Ints w v l) (hm : Moves F w w') : Ints w' v l := by
  obtain ⟨a, b, kb, fd, kf, H, rfl⟩ := H
  exact hv.same (fun g hg => hm.block g (hv.lt g hg) (H.row hv hg))
/-- kids are none of a place that nobody holds -/
def Hp.bare (h : Hp) : Prop := ∀ q : Nat, h.cnt (q : Int) = 0 → h.kids q = []

theorem storeR_ok {S : ByteArray} (he : (storeR h S).2.1 = 0) : ∃ i, L5.takeI h.al = some i ∧ storeR h S = ((2 : Int) + (i : Int), 0, { h with dk := L3.writeM h.dk ((2 : Int) + (i : Int)) S, al := L5.takeM h.al h.gen }) ∧ L3.writeE h.dk ((2 : Int) + (i : Int)) S = 0 := by
  unfold storeR at he ⊢
  by_cases h1 : L5.takeE h.al = 0
  · rw [if_neg (fun hn => hn h1)] at he ⊢
    obtain ⟨i, hi, hn⟩ := take_here h1
    rw [hn] at he ⊢
    by_cases h2 : L3.writeE h.dk ((2 : Int) + (i : Int)) S = 0
    · rw [if_neg (fun hn => hn h2)]
      exact ⟨i, hi, rfl, h2⟩
    · rw [if_pos h2] at he
      exact absurd he h2
  · rw [if_pos h1] at he
    exact absurd he h1

theorem kindN_le (n : L6.Nd) : kindN n ≤ 255 := by unfold kindN; split <;> omega
theorem storeR_gen (S : ByteArray) : (storeR h S).2.2.gen = h.gen := by
  unfold storeR
  split
  · rfl
  · split <;> rfl
/-- the cells that stood ahead of it stand behind it -/
theorem store_cells {S : ByteArray} {B : Nat} {v0 v1 v2 : Value} (k : STurned w w' p d (storeR h S).2.2 (c + 1) a b kb fd kf) (hB : B ∉ foot p a b kb fd) (s0 : w.cell? ⟨B, 0, none⟩ = some v0) (s1 : w.cell? ⟨B, 1, none⟩ = some v1) (s2 : w.cell? ⟨B, 2, none⟩ = some v2) :
    w'.cell? ⟨p, 0, none⟩ = some (.pointer (some ⟨a, 0, none⟩)) ∧ w'.cell? ⟨p, 1, none⟩ = some (.pointer (some ⟨d, 0, none⟩)) ∧ w'.cell? ⟨p, 2, none⟩ = some (.int .i64 h.gen) ∧ w'.cell? ⟨B, 0, none⟩ = some v0 ∧ w'.cell? ⟨B, 1, none⟩ = some v1 ∧ w'.cell? ⟨B, 2, none⟩ = some v2 := by
  obtain ⟨fd', k1, k2, _⟩ := k
  have hg := k1.cell2
  rw [storeR_gen] at hg
  exact ⟨k1.cell0, k1.cell1, hg, cell_moves k2 s0 hB, cell_moves k2 s1 hB, cell_moves k2 s2 hB⟩
set_option maxHeartbeats 4000000 in
set_option maxRecDepth 20000 in
theorem hput_any (n : L6.Nd) (ai ak : Option Addr) (ci ck : Nat) (w : World) (H : IsHeap w p d h c F) (hn : L6.Has w n ai ak) (hil : n.its.length ≤ 1100) (hkl : n.kds.length ≤ 1100) (hbare : h.bare) (hc : c ≤ 999990) :
    Calls Tryz.prog 10 #[.pointer (some ⟨p, 0, none⟩), .agg #[.bool n.leaf, .slice ai n.its.length ci, .slice ak n.kds.length ck]] w fun e w' => e = .returned (.tuple #[.int .i64 (putR h n).1, .int .i64 (putR h n).2.1]) ∧ HTurned w w' p d (putR h n).2.2 (c + 2) F := by
  have hb0 := below_alloc w (.cells #[.bool n.leaf, .slice ai n.its.length ci, .slice ak n.kds.length ck] 38)
  have q0 : (w.alloc (.cells #[.bool n.leaf, .slice ai n.its.length ci, .slice ak n.kds.length ck] 38)).cell? ⟨w.heap.size, 0, none⟩ = some (.bool n.leaf) := by simp
  have q1 : (w.alloc (.cells #[.bool n.leaf, .slice ai n.its.length ci, .slice ak n.kds.length ck] 38)).cell? ⟨w.heap.size, 1, none⟩ = some (.slice ai n.its.length ci) := by simp
  have q2 : (w.alloc (.cells #[.bool n.leaf, .slice ai n.its.length ci, .slice ak n.kds.length ck] 38)).cell? ⟨w.heap.size, 2, none⟩ = some (.slice ak n.kds.length ck) := by simp
  have HN := hide (hn.grow hb0)
  have HH := hide (H.grow hb0)
  have HH0 := hide H
  have HB := hide hb0
  have HIL := hide hil
  have HKL := hide hkl
  have HBR := hide hbare
  have HC := hide hc
  clear hn H hb0 hil hkl hbare hc
  obtain ⟨B, hB⟩ : ∃ x, x = w.heap.size := ⟨_, rfl⟩
  by_cases hE : (L6.encodeN n).2 = 0
  · go_enter Tryz.func10, Tryz.ntmps10
    go_wp2_with fail
    have HE := hide hE
    rw [← hB] at q0 q1 q2 ⊢
    have HBE := hide hB
    clear hB
    generalize w.alloc (.cells #[.bool n.leaf, .slice ai n.its.length ci, .slice ak n.kds.length ck] 38) = w1 at *
    refine (L6.encode_any n ai ak ci ck w1 (unhide HN) (unhide HIL) (unhide HKL)).mono ?_
    rintro x w2 ⟨rfl, hb2⟩
    rw [hE]
    clear hE
    obtain ⟨Y, hY⟩ : ∃ x, x = (L6.encodeN n).1 := ⟨_, rfl⟩
    rw [← hY]
    have HY := hide hY
    clear hY
    have q0' := (hb2.cell (World.block_lt_of_cell? _ _ q0)).trans q0
    have q1' := (hb2.cell (World.block_lt_of_cell? _ _ q1)).trans q1
    have q2' := (hb2.cell (World.block_lt_of_cell? _ _ q2)).trans q2
    have HN2 := hide ((unhide HN).grow hb2)
    have HH2 := hide ((unhide HH).grow hb2)
    have HB2 := hide (below_then (unhide HB) hb2)
    clear hb2 q0 q1 q2 HN HH HB
    go_wp2_with fail
    refine (placesOf_any n.kds ak ck w2 (unhide HN2).2 (unhide HKL)).mono ?_
    rintro x w3 ⟨v, rfl, hv3, hg3, hb3⟩
    have q0 := (hb3.cell (World.block_lt_of_cell? _ _ q0')).trans q0'
    have q1 := (hb3.cell (World.block_lt_of_cell? _ _ q1')).trans q1'
    have q2 := (hb3.cell (World.block_lt_of_cell? _ _ q2')).trans q2'
    have HV := hide hv3
    have HH3 := hide ((unhide HH2).grow hb3)
    have HB3 := hide (below_then (unhide HB2) hb3)
    clear hb3 hv3 hg3 q0' q1' q2' HN2 HH2 HB2
    have hks : n.kds.map (fun x => x.2) = places n := rfl
    rw [hks] at HV
    have hlen : (places n).length ≤ 1100 := by unfold places; rw [List.length_map]; exact unhide HKL
    have HLEN := hide hlen
    clear hks hlen
    go_wp2_with fail
    refine (mayHold_any (places n) v w3 (unhide HH3) (unhide HV) (enc_places (unhide HE)) (unhide HLEN)).mono ?_
    rintro x w4 ⟨rfl, hb4⟩
    have q0' := (hb4.cell (World.block_lt_of_cell? _ _ q0)).trans q0
    have q1' := (hb4.cell (World.block_lt_of_cell? _ _ q1)).trans q1
    have q2' := (hb4.cell (World.block_lt_of_cell? _ _ q2)).trans q2
    have HV4 := hide ((unhide HV).grow hb4)
    have HH4 := hide ((unhide HH3).grow hb4)
    have HB4 := hide (below_then (unhide HB3) hb4)
    clear hb4 q0 q1 q2 HV HH3 HB3
    by_cases hM : mayE h.al (places n) = 0
    · rw [hM]
      have HM := hide hM
      clear hM
      go_wp2_with fail
      obtain ⟨a, b, kb, fd, kf, H4, rfl⟩ := unhide HH4
      clear HH4
      have hBF : B ∉ foot p a b kb fd := fun hx => by
        have := (unhide HH0).lt B hx
        have := unhide HBE
        omega
      have HBF := hide hBF
      have p0 := H4.cell0
      have p1 := H4.cell1
      have p2 := H4.cell2
      have HH4 : Hid (HeapAt w4.drew p d h c a b kb fd kf) := H4.grow (below_drew w4)
      have hkn : (if n.leaf then (1 : Int) else 2) = ((kindN n : Nat) : Int) := by unfold kindN; split <;> rfl
      have HKN := hide hkn
      have HV4' : Hid (Ints w4.drew v (places n)) := (unhide HV4).grow (below_drew w4)
      have HB4' : Hid (Below w.heap.size w w4.drew) := below_then (unhide HB4) (below_drew w4)
      clear hBF H4 hkn HV4 HB4
      have HV4 := HV4'
      have HB4 := HB4'
      clear HV4' HB4'
      have hSX : (L4.wrapR ((kindN n : Nat) : Int) h.gen Y).1 = sectorN h.gen n := by unfold sectorN; rw [unhide HY]
      have HSX := hide hSX
      clear hSX
      by_cases hW : (storeR h (sectorN h.gen n)).2.1 = 0
      · obtain ⟨i, hi, hst, _⟩ := storeR_ok hW
        have hD : putR h n = ((2 : Int) + (i : Int), 0, { dk := L3.writeM h.dk ((2 : Int) + (i : Int)) (sectorN h.gen n), al := holdAll (L5.takeM h.al h.gen) (places n), gen := h.gen, kids := setK h.kids (2 + i) (places n) }) := by
          unfold putR
          rw [if_neg (fun hn => hn (unhide HE)), if_neg (fun hn => hn (unhide HM)), if_neg (fun hn => hn hW), hst]
          have e : ((2 : Int) + (i : Int)).toNat = 2 + i := by omega
          simp only [e]
        have HD := hide hD
        have HST := hide hst
        obtain ⟨hin, hsn, _⟩ := take_at hi h.gen
        have hfew := (unhide HH4).al.ok.few
        have hi4 : 2 + i < 4096 := by unfold L5.In at hin; omega
        have hk0 : h.kids (2 + i) = [] := unhide HBR (2 + i) (by
          show L5.cntS (L5.sec 2 h.al ((2 + i : Nat) : Int)) = 0
          have e : ((2 + i : Nat) : Int) = (2 : Int) + (i : Int) := by omega
          rw [e, hsn]
          rfl)
        have HI4 := hide hi4
        have HK0 := hide hk0
        clear hW hD hst hin hsn hfew hi hi4 hk0
        obtain ⟨N, hN⟩ : ∃ x : Int, x = (2 : Int) + (i : Int) := ⟨_, rfl⟩
        rw [← hN] at HD HST
        have HNE := hide hN
        clear hN
        go_region_held3 (fun w' => w'.cell? ⟨p, 0, none⟩ = some (.pointer (some ⟨a, 0, none⟩)) ∧ w'.cell? ⟨p, 1, none⟩ = some (.pointer (some ⟨d, 0, none⟩)) ∧ w'.cell? ⟨p, 2, none⟩ = some (.int .i64 h.gen) ∧ w'.cell? ⟨B, 0, none⟩ = some (.bool n.leaf) ∧ w'.cell? ⟨B, 1, none⟩ = some (.slice ai n.its.length ci) ∧ w'.cell? ⟨B, 2, none⟩ = some (.slice ak n.kds.length ck))
          (first | assumption | exact ⟨p0, p1, p2, q0', q1', q2'⟩ | exact ⟨r0, r1, r2, s0, s1, s2⟩ | exact unhide HS6)
          (first
            | (go_at_call 27; go_split_ands; refine (kindOf_any n.leaf _ _ _).mono ?_; rintro e w5 ⟨rfl, hb5⟩; rw [unhide HKN]; have H5 := (unhide HH4).grow hb5; have r0 := H5.cell0; have r1 := H5.cell1; have r2 := H5.cell2; have s0 := (hb5.cell (World.block_lt_of_cell? _ _ (show w4.drew.cell? _ = _ from q0'))).trans q0'; have s1 := (hb5.cell (World.block_lt_of_cell? _ _ (show w4.drew.cell? _ = _ from q1'))).trans q1'; have s2 := (hb5.cell (World.block_lt_of_cell? _ _ (show w4.drew.cell? _ = _ from q2'))).trans q2'; have HH5 := hide H5; have HB5 := hide (below_then (unhide HB4) hb5); have HV5 := hide ((unhide HV4).grow hb5); clear hb5 H5)
            | (go_at_call 26; go_split_ands; refine (store_any (kindN n) Y _ (unhide HH5) (kindN_le n) (by rw [unhide HY]; exact enc_size (unhide HE)) (by have := unhide HC; omega)).mono ?_; rintro e w6 ⟨rfl, ht6⟩; have HS6 := hide (store_cells ht6 (unhide HBF) s0 s1 s2); have HT6 := hide ht6; rw [unhide HSX, unhide HST]; dsimp only; clear ht6))
        clear r0 r1 r2 s0 s1 s2 p0 p1 p2 q0' q1' q2' HS6
        have HT : Hid (HTurned w w6 p d { dk := L3.writeM h.dk N (sectorN h.gen n), al := L5.takeM h.al h.gen, gen := h.gen, kids := h.kids } (c + 1) (foot p a b kb fd)) := by
          have ht := (unhide HT6).turned
          rw [unhide HSX, unhide HST] at ht
          exact HTurned.then (L5.Moves.of_below _ (unhide HB5)) (fun x hx => .inl hx) ht
        have HV6 : Hid (Ints w6 v (places n)) := by
          obtain ⟨fd', _, k2, _⟩ := unhide HT6
          exact IsHeap.ints ⟨a, b, kb, fd, kf, unhide HH5, rfl⟩ (unhide HV5) k2
        clear HT6 HH4 HH5 HV4 HV5 HB4 HB5
        obtain ⟨a0, cap0, rfl⟩ := (unhide HV6).form
        go_wp2_with fail
        go_loopw [53] (fun t wr => ∃ k : Nat, k ≤ (places n).length ∧ t = .int .i64 (k : Int) ∧ HTurned w wr p d { dk := L3.writeM h.dk N (sectorN h.gen n), al := holdAll (L5.takeM h.al h.gen) ((places n).take k), gen := h.gen, kids := h.kids } (c + 1) (foot p a b kb fd) ∧ Ints wr (.slice a0 (places n).length cap0) (places n)) (fun t _ => (places n).length - (intOf t).toNat)
        case atStart => exact ⟨0, Nat.zero_le _, rfl, unhide HT, unhide HV6⟩
        case round =>
          clear HT HV6
          obtain ⟨k, hk, rfl, ht, hv⟩ := hrel
          have hL := unhide HLEN
          by_cases hlt : k < (places n).length
          · obtain ⟨g, rfl, hcell⟩ := hv.at k hlt
            obtain ⟨F1, ⟨a1, b1, kb1, fd1, kf1, H1, rfl⟩, hm1, hf1⟩ := ht
            have hx := enc_places (unhide HE) _ (List.getElem_mem hlt)
            have hI : L5.I64 (places n)[k] := by unfold L5.I64; omega
            have c0 := H1.cell0
            have HH1 := hide H1
            have HI := hide hI
            have HX1 := hide (And.intro hm1 hf1)
            have HV1 := hide hv
            obtain ⟨X, hX⟩ : ∃ y, y = (places n)[k] := ⟨_, rfl⟩
            rw [← hX] at hcell HI
            have HXE := hide hX
            clear H1 hI hm1 hf1 hv hx hX
            go_wp2_with (go_at_call 28; refine (L5.hold_any X _ (unhide HH1).al (unhide HI)).mono ?_; rintro e w7 ⟨rfl, ha, hm⟩; have HX7 := hide (And.intro ha hm); clear ha hm)
            go_roundw
            case rel =>
              obtain ⟨ha, hm⟩ := unhide HX7
              obtain ⟨hm1, hf1⟩ := unhide HX1
              have ht7 := alloc_turned (unhide HH1) hm ha (length_hold _ _)
              have e1 : holdAll (L5.takeM h.al h.gen) ((places n).take (k + 1)) = L5.holdM 2 (holdAll (L5.takeM h.al h.gen) ((places n).take k)) X := by
                rw [List.take_add_one, List.getElem?_eq_getElem hlt, ← unhide HXE]
                unfold holdAll
                rw [List.foldl_append]
                rfl
              refine ⟨k + 1, by omega, by go_num, ?_, ?_⟩
              · rw [e1]
                exact HTurned.then hm1 hf1 ht7
              · obtain ⟨_, _, k2, _⟩ := ht7
                exact IsHeap.ints ⟨a1, b1, kb1, fd1, kf1, unhide HH1, rfl⟩ (unhide HV1) k2
            case measure => simp [intOf]; omega
          · obtain rfl : k = (places n).length := by omega
            rw [List.take_length] at ht
            obtain ⟨F1, H1, hm1, hf1⟩ := ht
            have HH1 := hide H1
            have HX1 := hide (And.intro hm1 hf1)
            have HV1 := hide hv
            have hNn : N = ((2 + i : Nat) : Int) := by rw [unhide HNE]; omega
            have HNn := hide hNn
            clear H1 hm1 hf1 hv hNn
            go_wp2_with (go_at_call 29; rw [unhide HNn]; refine (know_any (2 + i) (unhide HI4) _ (places n) _ (unhide HH1) (unhide HV1) (unhide HK0) (by have := unhide HC; omega)).mono ?_; rintro e w8 ⟨rfl, ht8⟩; have HX8 := hide ht8; clear ht8)
            go_ret2
            rw [unhide HD]
            obtain ⟨hm1, hf1⟩ := unhide HX1
            refine ⟨?_, HTurned.then hm1 hf1 (unhide HX8)⟩
            rw [unhide HNE]
            rfl
      · have hD : putR h n = (0, (storeR h (sectorN h.gen n)).2.1, (storeR h (sectorN h.gen n)).2.2) := by unfold putR; rw [if_neg (fun hn => hn (unhide HE)), if_neg (fun hn => hn (unhide HM)), if_pos hW]
        have hW1 : ((storeR h (sectorN h.gen n)).2.1 == 0) = false := beq_eq_false_iff_ne.2 hW
        have hW2 : ((storeR h (sectorN h.gen n)).2.1 != 0) = true := bne_iff_ne.2 hW
        have HD := hide hD
        clear hW hD
        go_region_held3 (fun w' => w'.cell? ⟨p, 0, none⟩ = some (.pointer (some ⟨a, 0, none⟩)) ∧ w'.cell? ⟨p, 1, none⟩ = some (.pointer (some ⟨d, 0, none⟩)) ∧ w'.cell? ⟨p, 2, none⟩ = some (.int .i64 h.gen) ∧ w'.cell? ⟨B, 0, none⟩ = some (.bool n.leaf) ∧ w'.cell? ⟨B, 1, none⟩ = some (.slice ai n.its.length ci) ∧ w'.cell? ⟨B, 2, none⟩ = some (.slice ak n.kds.length ck))
          (first | assumption | exact ⟨p0, p1, p2, q0', q1', q2'⟩ | exact ⟨r0, r1, r2, s0, s1, s2⟩ | exact unhide HS6)
          (first
            | (go_at_call 27; go_split_ands; refine (kindOf_any n.leaf _ _ _).mono ?_; rintro e w5 ⟨rfl, hb5⟩; rw [unhide HKN]; have H5 := (unhide HH4).grow hb5; have r0 := H5.cell0; have r1 := H5.cell1; have r2 := H5.cell2; have s0 := (hb5.cell (World.block_lt_of_cell? _ _ (show w4.drew.cell? _ = _ from q0'))).trans q0'; have s1 := (hb5.cell (World.block_lt_of_cell? _ _ (show w4.drew.cell? _ = _ from q1'))).trans q1'; have s2 := (hb5.cell (World.block_lt_of_cell? _ _ (show w4.drew.cell? _ = _ from q2'))).trans q2'; have HH5 := hide H5; have HB5 := hide (below_then (unhide HB4) hb5); have HV5 := hide ((unhide HV4).grow hb5); clear hb5 H5)
            | (go_at_call 26; go_split_ands; refine (store_any (kindN n) Y _ (unhide HH5) (kindN_le n) (by rw [unhide HY]; exact enc_size (unhide HE)) (by have := unhide HC; omega)).mono ?_; rintro e w6 ⟨rfl, ht6⟩; have HS6 := hide (store_cells ht6 (unhide HBF) s0 s1 s2); have HT6 := hide ht6; rw [unhide HSX]; clear ht6))
        clear r0 r1 r2 s0 s1 s2 p0 p1 p2 q0' q1' q2'
        go_wp2
        go_ret2
        rw [unhide HD]
        refine ⟨rfl, ?_⟩
        have ht := (unhide HT6).turned
        rw [unhide HSX] at ht
        obtain ⟨F', k1, k2, k3⟩ := HTurned.then (L5.Moves.of_below _ (unhide HB5)) (fun x hx => .inl hx) ht
        exact ⟨F', k1.mono (by omega), k2, k3⟩
    · have hM1 : (mayE h.al (places n) == 0) = false := beq_eq_false_iff_ne.2 hM
      have hM2 : (mayE h.al (places n) != 0) = true := bne_iff_ne.2 hM
      have hD : putR h n = (0, mayE h.al (places n), h) := by unfold putR; rw [if_neg (fun hn => hn (unhide HE)), if_pos hM]
      obtain ⟨E, hEE⟩ : ∃ x, x = mayE h.al (places n) := ⟨_, rfl⟩
      rw [← hEE] at hM1 hM2 hD ⊢
      have HD := hide hD
      clear hM hEE hD
      go_wp2
      go_ret2
      rw [unhide HD]
      exact ⟨rfl, ((unhide HH0).mono (by omega)).stays (unhide HB4)⟩
  · have hD : putR h n = (0, ((L6.encodeN n).2 : Int), h) := by unfold putR; rw [if_pos hE]
    have hE1 : (((L6.encodeN n).2 : Int) == 0) = false := beq_eq_false_iff_ne.2 (by omega)
    have hE2 : (((L6.encodeN n).2 : Int) != 0) = true := bne_iff_ne.2 (by omega)
    obtain ⟨E, hEE⟩ : ∃ x : Int, x = ((L6.encodeN n).2 : Int) := ⟨_, rfl⟩
    rw [← hEE] at hE1 hE2 hD
    have HD := hide hD
    have HEE := hide hEE
    clear hE hEE hD hB
    go_enter Tryz.func10, Tryz.ntmps10
    go_wp2_with (go_at_call 23; refine (L6.encode_any n ai ak ci ck _ (unhide HN) (unhide HIL) (unhide HKL)).mono ?_; rintro x w2 ⟨rfl, hb2⟩; rw [← unhide HEE]; have HB2 := hide (below_then (unhide HB) hb2); clear hb2)
    go_ret2
    rw [unhide HD]
    exact ⟨rfl, ((unhide HH0).mono (by omega)).stays (unhide HB2)⟩
end Go.Proofs.YtdelobaiicoogaaGreatDoor
