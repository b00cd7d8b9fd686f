/- Texts that the proof needs, one behind the other. -/
import Derived.Test.YtdelobaiicoogaaGreatDoorMaq
import Derived.Test.YtdelobaiicoogaaGreatDoorMbl
/- Put of a node without kids: what is known of kids stays just as it was. -/
namespace Go.Proofs.YtdelobaiicoogaaGreatDoor
open Go.ChangeShapes Go.WideShapes Go.ChangeAt Go.RowKit
variable {w w' : World} {p d : Nat} {h : Hp} {c : Nat} {F : List Nat} {a b kb : Nat} {fd : List Nat} {kf : Nat → Option Value}

set_option maxHeartbeats 1000000 in
theorem know_nil (p q : Nat) (a0 : Option Addr) (cap0 : Nat) (w : World) : Calls Tryz.prog 29 #[.pointer (some ⟨p, 0, none⟩), .int .i64 (q : Int), .slice a0 0 cap0] w fun e w' => e = .returned (.tuple #[]) ∧ Below w.heap.size w w' := by
  have hn : ¬ (0 : Int) < (((0 : Nat) : Nat) : Int) := by simp
  go_enter Tryz.func29, Tryz.ntmps29
  go_wp2
  go_end0
  exact ⟨rfl, Below.refl _ _⟩
set_option maxHeartbeats 4000000 in
set_option maxRecDepth 20000 in
theorem hput_bareS {a b kb : Nat} {fd : List Nat} {kf : Nat → Option Value} (n : L6.Nd) (hpl : places n = []) (ai ak : Option Addr) (ci ck : Nat) (w : World) (H : HeapAt w p d h c a b kb fd kf) (hn : L6.Has w n ai ak) (hil : n.its.length ≤ 1100) (hkl : n.kds.length ≤ 1100) (hbare : h.bare) (hc : c ≤ 999990) (hok : (putR h n).2.1 = 0) :
    Calls Tryz.prog 10 #[.pointer (some ⟨p, 0, none⟩), .agg #[.bool n.leaf, .slice ai n.its.length ci, .slice ak n.kds.length ck]] w fun e w' => e = .returned (.tuple #[.int .i64 (putR h n).1, .int .i64 0]) ∧ STurned w w' p d (putR h n).2.2 (c + 2) a b kb fd kf := by
  have HPL := hide hpl
  have HOK := hide hok
  have hE : (L6.encodeN n).2 = 0 := by
    by_cases q : (L6.encodeN n).2 = 0
    · exact q
    · unfold putR at hok
      rw [if_pos q] at hok
      have hok2 : (((L6.encodeN n).2 : Nat) : Int) = 0 := hok
      omega
  have hM : mayE h.al (places n) = 0 := by
    by_cases q : mayE h.al (places n) = 0
    · exact q
    · unfold putR at hok
      rw [if_neg (fun hn => hn hE), if_pos q] at hok
      exact hok
  have hW : (storeR h (sectorN h.gen n)).2.1 = 0 := by
    by_cases q : (storeR h (sectorN h.gen n)).2.1 = 0
    · exact q
    · unfold putR at hok
      rw [if_neg (fun hn => hn hE), if_neg (fun hn => hn hM), if_pos q] at hok
      exact hok
  have HHM := hide hM
  have HHW := hide hW
  clear hpl hok hM hW
  have hb0 := below_alloc w (.cells #[.bool n.leaf, .slice ai n.its.length ci, .slice ak n.kds.length ck] 38)
  have q0 : (w.alloc (.cells #[.bool n.leaf, .slice ai n.its.length ci, .slice ak n.kds.length ck] 38)).cell? ⟨w.heap.size, 0, none⟩ = some (.bool n.leaf) := by simp
  have q1 : (w.alloc (.cells #[.bool n.leaf, .slice ai n.its.length ci, .slice ak n.kds.length ck] 38)).cell? ⟨w.heap.size, 1, none⟩ = some (.slice ai n.its.length ci) := by simp
  have q2 : (w.alloc (.cells #[.bool n.leaf, .slice ai n.its.length ci, .slice ak n.kds.length ck] 38)).cell? ⟨w.heap.size, 2, none⟩ = some (.slice ak n.kds.length ck) := by simp
  have HN := hide (hn.grow hb0)
  have HH := hide (H.grow hb0)
  have HH0 := hide H
  have HB := hide hb0
  have HIL := hide hil
  have HKL := hide hkl
  have HBR := hide hbare
  have HC := hide hc
  clear hn H hb0 hil hkl hbare hc
  obtain ⟨B, hB⟩ : ∃ x, x = w.heap.size := ⟨_, rfl⟩
  · go_enter Tryz.func10, Tryz.ntmps10
    go_wp2_with fail
    have HE := hide hE
    rw [← hB] at q0 q1 q2 ⊢
    have HBE := hide hB
    clear hB
    generalize w.alloc (.cells #[.bool n.leaf, .slice ai n.its.length ci, .slice ak n.kds.length ck] 38) = w1 at *
    refine (L6.encode_any n ai ak ci ck w1 (unhide HN) (unhide HIL) (unhide HKL)).mono ?_
    rintro x w2 ⟨rfl, hb2⟩
    rw [hE]
    clear hE
    obtain ⟨Y, hY⟩ : ∃ x, x = (L6.encodeN n).1 := ⟨_, rfl⟩
    rw [← hY]
    have HY := hide hY
    clear hY
    have q0' := (hb2.cell (World.block_lt_of_cell? _ _ q0)).trans q0
    have q1' := (hb2.cell (World.block_lt_of_cell? _ _ q1)).trans q1
    have q2' := (hb2.cell (World.block_lt_of_cell? _ _ q2)).trans q2
    have HN2 := hide ((unhide HN).grow hb2)
    have HH2 := hide ((unhide HH).grow hb2)
    have HB2 := hide (below_then (unhide HB) hb2)
    clear hb2 q0 q1 q2 HN HH HB
    go_wp2_with fail
    refine (placesOf_any n.kds ak ck w2 (unhide HN2).2 (unhide HKL)).mono ?_
    rintro x w3 ⟨v, rfl, hv3, hg3, hb3⟩
    have q0 := (hb3.cell (World.block_lt_of_cell? _ _ q0')).trans q0'
    have q1 := (hb3.cell (World.block_lt_of_cell? _ _ q1')).trans q1'
    have q2 := (hb3.cell (World.block_lt_of_cell? _ _ q2')).trans q2'
    have HV := hide hv3
    have HH3 := hide ((unhide HH2).grow hb3)
    have HB3 := hide (below_then (unhide HB2) hb3)
    clear hb3 hv3 hg3 q0' q1' q2' HN2 HH2 HB2
    have hks : n.kds.map (fun x => x.2) = places n := rfl
    rw [hks] at HV
    have hlen : (places n).length ≤ 1100 := by unfold places; rw [List.length_map]; exact unhide HKL
    have HLEN := hide hlen
    clear hks hlen
    go_wp2_with fail
    refine (mayHold_any (places n) v w3 ⟨a, b, kb, fd, kf, unhide HH3, rfl⟩ (unhide HV) (enc_places (unhide HE)) (unhide HLEN)).mono ?_
    rintro x w4 ⟨rfl, hb4⟩
    have q0' := (hb4.cell (World.block_lt_of_cell? _ _ q0)).trans q0
    have q1' := (hb4.cell (World.block_lt_of_cell? _ _ q1)).trans q1
    have q2' := (hb4.cell (World.block_lt_of_cell? _ _ q2)).trans q2
    have HV4 := hide ((unhide HV).grow hb4)
    have HH4 := hide ((unhide HH3).grow hb4)
    have HB4 := hide (below_then (unhide HB3) hb4)
    clear hb4 q0 q1 q2 HV HH3 HB3
    have hM := unhide HHM
    · rw [hM]
      have HM := hide hM
      clear hM
      go_wp2_with fail
      have H4 := unhide HH4
      clear HH4
      have hBF : B ∉ foot p a b kb fd := fun hx => by
        have := (unhide HH0).lt B hx
        have := unhide HBE
        omega
      have HBF := hide hBF
      have p0 := H4.cell0
      have p1 := H4.cell1
      have p2 := H4.cell2
      have HH4 : Hid (HeapAt w4.drew p d h c a b kb fd kf) := H4.grow (below_drew w4)
      have hkn : (if n.leaf then (1 : Int) else 2) = ((kindN n : Nat) : Int) := by unfold kindN; split <;> rfl
      have HKN := hide hkn
      have HV4' : Hid (Ints w4.drew v (places n)) := (unhide HV4).grow (below_drew w4)
      have HB4' : Hid (Below w.heap.size w w4.drew) := below_then (unhide HB4) (below_drew w4)
      clear hBF H4 hkn HV4 HB4
      have HV4 := HV4'
      have HB4 := HB4'
      clear HV4' HB4'
      have hSX : (L4.wrapR ((kindN n : Nat) : Int) h.gen Y).1 = sectorN h.gen n := by unfold sectorN; rw [unhide HY]
      have HSX := hide hSX
      clear hSX
      have hW := unhide HHW
      · obtain ⟨i, hi, hst, _⟩ := storeR_ok hW
        have hD : putR h n = ((2 : Int) + (i : Int), 0, { dk := L3.writeM h.dk ((2 : Int) + (i : Int)) (sectorN h.gen n), al := holdAll (L5.takeM h.al h.gen) (places n), gen := h.gen, kids := setK h.kids (2 + i) (places n) }) := by
          unfold putR
          rw [if_neg (fun hn => hn (unhide HE)), if_neg (fun hn => hn (unhide HM)), if_neg (fun hn => hn hW), hst]
          have e : ((2 : Int) + (i : Int)).toNat = 2 + i := by omega
          simp only [e]
        have HD := hide hD
        have HST := hide hst
        obtain ⟨hin, hsn, _⟩ := take_at hi h.gen
        have hfew := (unhide HH4).al.ok.few
        have hi4 : 2 + i < 4096 := by unfold L5.In at hin; omega
        have hk0 : h.kids (2 + i) = [] := unhide HBR (2 + i) (by
          show L5.cntS (L5.sec 2 h.al ((2 + i : Nat) : Int)) = 0
          have e : ((2 + i : Nat) : Int) = (2 : Int) + (i : Int) := by omega
          rw [e, hsn]
          rfl)
        have HI4 := hide hi4
        have HK0 := hide hk0
        clear hW hD hst hin hsn hfew hi hi4 hk0
        obtain ⟨N, hN⟩ : ∃ x : Int, x = (2 : Int) + (i : Int) := ⟨_, rfl⟩
        rw [← hN] at HD HST
        have HNE := hide hN
        clear hN
        go_region_held3 (fun w' => w'.cell? ⟨p, 0, none⟩ = some (.pointer (some ⟨a, 0, none⟩)) ∧ w'.cell? ⟨p, 1, none⟩ = some (.pointer (some ⟨d, 0, none⟩)) ∧ w'.cell? ⟨p, 2, none⟩ = some (.int .i64 h.gen) ∧ w'.cell? ⟨B, 0, none⟩ = some (.bool n.leaf) ∧ w'.cell? ⟨B, 1, none⟩ = some (.slice ai n.its.length ci) ∧ w'.cell? ⟨B, 2, none⟩ = some (.slice ak n.kds.length ck))
          (first | assumption | exact ⟨p0, p1, p2, q0', q1', q2'⟩ | exact ⟨r0, r1, r2, s0, s1, s2⟩ | exact unhide HS6)
          (first
            | (go_at_call 27; go_split_ands; refine (kindOf_any n.leaf _ _ _).mono ?_; rintro e w5 ⟨rfl, hb5⟩; rw [unhide HKN]; have H5 := (unhide HH4).grow hb5; have r0 := H5.cell0; have r1 := H5.cell1; have r2 := H5.cell2; have s0 := (hb5.cell (World.block_lt_of_cell? _ _ (show w4.drew.cell? _ = _ from q0'))).trans q0'; have s1 := (hb5.cell (World.block_lt_of_cell? _ _ (show w4.drew.cell? _ = _ from q1'))).trans q1'; have s2 := (hb5.cell (World.block_lt_of_cell? _ _ (show w4.drew.cell? _ = _ from q2'))).trans q2'; have HH5 := hide H5; have HB5 := hide (below_then (unhide HB4) hb5); have HV5 := hide ((unhide HV4).grow hb5); clear hb5 H5)
            | (go_at_call 26; go_split_ands; refine (store_any (kindN n) Y _ (unhide HH5) (kindN_le n) (by rw [unhide HY]; exact enc_size (unhide HE)) (by have := unhide HC; omega)).mono ?_; rintro e w6 ⟨rfl, ht6⟩; have HS6 := hide (store_cells ht6 (unhide HBF) s0 s1 s2); have HT6 := hide ht6; rw [unhide HSX, unhide HST]; dsimp only; clear ht6))
        clear r0 r1 r2 s0 s1 s2 p0 p1 p2 q0' q1' q2' HS6
        have HT : Hid (STurned w w6 p d { dk := L3.writeM h.dk N (sectorN h.gen n), al := L5.takeM h.al h.gen, gen := h.gen, kids := h.kids } (c + 1) a b kb fd kf) := by
          obtain ⟨fd', k1, k2, k3⟩ := unhide HT6
          rw [unhide HSX, unhide HST] at k1
          refine ⟨fd', k1, L5.Moves.then (L5.Moves.of_below _ (unhide HB5)) k2, fun x hx => ?_⟩
          rcases k3 x hx with q | q
          · exact .inl q
          · exact .inr (Nat.le_trans (unhide HB5).size q)
        have HV6 : Hid (Ints w6 v (places n)) := by
          obtain ⟨fd', _, k2, _⟩ := unhide HT6
          exact IsHeap.ints ⟨a, b, kb, fd, kf, unhide HH5, rfl⟩ (unhide HV5) k2
        clear HT6 HH4 HH5 HV4 HV5 HB4 HB5
        obtain ⟨a0, cap0, rfl⟩ := (unhide HV6).form
        go_wp2_with fail
        refine wp_loop_rounds 1 ?_
        have hl0 : (places n).length = 0 := by rw [unhide HPL]; rfl
        rw [hl0]
        rw [rounds_succ]
        have hv6 := unhide HV6
        rw [unhide HPL] at hv6
        have HV7 := hide hv6
        have hNn : N = ((2 + i : Nat) : Int) := by rw [unhide HNE]; omega
        have HNn := hide hNn
        clear hNn hv6 HV6
        go_wp2_with (go_at_call 29; rw [unhide HNn]; refine (know_nil p (2 + i) a0 cap0 _).mono ?_; rintro e w8 ⟨rfl, hb8⟩; have HB8 := hide hb8; clear hb8)
        go_ret2
        rw [unhide HD]
        refine ⟨by rw [unhide HNE]; rfl, ?_⟩
        obtain ⟨fd', k1, k2, k3⟩ := unhide HT
        have e1 : setK h.kids (2 + i) (places n) = h.kids := by
          rw [unhide HPL]
          funext j
          unfold setK
          split
          · rename_i e; rw [e, unhide HK0]
          · rfl
        rw [e1, unhide HPL]
        refine ⟨fd', (k1.grow (unhide HB8)).mono (by omega), L5.Moves.then k2 (L5.Moves.of_below _ (unhide HB8)), k3⟩
end Go.Proofs.YtdelobaiicoogaaGreatDoor

/- put: a planned leaf; what is known of kids stays just as it was. -/
namespace Go.Proofs.YtdelobaiicoogaaGreatDoor
open Go.ChangeShapes Go.WideShapes Go.ChangeAt Go.RowKit
attribute [local go_sem] Oper.semAt_some
variable {w w' : World} {p d : Nat} {h : Hp} {c : Nat} {F : List Nat}

theorem HeapAt.aside2 {pa pb pk : Nat} {fd : List Nat} {kf : Nat → Option Value} {fq : List Nat} (H : HeapAt w p d h c pa pb pk fd kf) (hm : Moves fq w w') (hd : ∀ x ∈ fq, x ∉ foot p pa pb pk fd) (h0 : 0 ∉ fq) (hr : ∀ j, j < 4096 → ∀ v, kf j = some v → ∀ g, v.ownBlock = some g → g ∉ fq) : HeapAt w' p d h c pa pb pk fd kf := by
  refine H.keep hm hd h0 (fun j hj => (H.kid j hj).same (fun v hv g hg => ?_))
  have hI : Ints w v (h.kids j) := by have := H.kid j hj; rw [hv] at this; exact this
  exact hm.block g (hI.lt g hg) (hr j hj v hv g hg)
theorem HeapAt.aside {pa pb pk : Nat} {fd : List Nat} {kf : Nat → Option Value} {fq : List Nat} (H : HeapAt w p d h c pa pb pk fd kf) (hm : Moves fq w w') (hd : ∀ x ∈ fq, x ∉ foot p pa pb pk fd) (h0 : 0 ∉ fq) (hr : ∀ x ∈ fq, x < w.heap.size → ¬ Kd w x 3) : HeapAt w' p d h c pa pb pk fd kf := by
  refine H.aside2 hm hd h0 (fun j hj v hv g hg hx => ?_)
  have hI : Ints w v (h.kids j) := by have := H.kid j hj; rw [hv] at this; exact this
  exact hr g hx (hI.lt g hg) (hI.kd hg)

set_option maxHeartbeats 4000000 in
set_option maxRecDepth 20000 in
theorem put_leafS {pa pb pk : Nat} {fd : List Nat} {kf : Nat → Option Value} (M : Nat) (key : ByteArray) (l : List L6.It) (a : Option Addr) (cap : Nat) (w : World) (H : HeapAt w p d h c pa pb pk fd kf) (hM : Kd w M 184) (m0 : w.cell? ⟨M, 0, none⟩ = some (.pointer (some ⟨p, 0, none⟩)))
    (m10 : w.cell? ⟨M, 10, none⟩ = some (.slice none 0 0)) (hMF : M ∉ foot p pa pb pk fd) (hr : RowD w a l) (hl : l.length ≤ 1100) (hbare : h.bare) (hc : c ≤ 999990) (hok : (putR h ⟨true, l, []⟩).2.1 = 0) :
    Calls Tryz.prog 85 #[.pointer (some ⟨M, 0, none⟩), .agg #[.string key, .string ⟨#[]⟩, .int .i64 0, .bool true, .slice a l.length cap, .int .i64 1]] w fun e w' => ∃ g cp, e = .returned (.tuple #[.int .i64 (putR h ⟨true, l, []⟩).1, .int .i64 0]) ∧ w'.cell? ⟨M, 10, none⟩ = some (.slice (some ⟨g, 0, none⟩) 1 cp) ∧ w'.cell? ⟨g, 0, none⟩ = some (.int .i64 (putR h ⟨true, l, []⟩).1) ∧ w.heap.size ≤ g ∧
      ∃ fd', HeapAt w' p d (putR h ⟨true, l, []⟩).2.2 (c + 2) pa pb pk fd' kf ∧ M ∉ foot p pa pb pk fd' ∧ Moves (M :: foot p pa pb pk fd) w w' ∧ ∀ x ∈ fd', x ∈ fd ∨ w.heap.size ≤ x := by
  have b1 := below_alloc w (.cells #[.string key, .string ⟨#[]⟩, .int .i64 0, .bool true, .slice a l.length cap, .int .i64 1] 192)
  have hn1 := heap_alloc_new w (.cells #[.string key, .string ⟨#[]⟩, .int .i64 0, .bool true, .slice a l.length cap, .int .i64 1] 192)
  obtain ⟨hc1, _⟩ := blk_facts hn1
  have e3 := hc1 3 _ rfl
  have e4 := hc1 4 _ rfl
  have HS := hide (shape_leaf l a cap (w.alloc (.cells #[.string key, .string ⟨#[]⟩, .int .i64 0, .bool true, .slice a l.length cap, .int .i64 1] 192)) (hr.grow b1) hl)
  have HB := hide b1
  have HH := hide H
  have HM0 := hide m0
  have HM10 := hide m10
  have HK := hide hM
  have HMF := hide hMF
  have HL := hide hl
  have HBR := hide hbare
  have HC := hide hc
  have HOK := hide hok
  clear b1 hn1 hc1 H m0 m10 hM hMF hr hl hbare hc hok
  go_enter Tryz.func85, Tryz.ntmps85
  go_wp2_with fail
  generalize w.alloc (.cells #[.string key, .string ⟨#[]⟩, .int .i64 0, .bool true, .slice a l.length cap, .int .i64 1] 192) = w1 at *
  refine (unhide HS).mono ?_
  rintro e w2 ⟨ai, ci, rfl, ho, hb⟩
  have b2 := below_alloc w2 (.cells #[.bool true, .slice ai l.length ci, .slice none 0 0] 38)
  have hb2 := below_then (below_then (unhide HB) hb) b2
  have hr2 : L6.Row itV (w2.alloc (.cells #[.bool true, .slice ai l.length ci, .slice none 0 0] 38)) ai l := ho.row.grow b2
  have HB2 := hide hb2
  have HR2 := hide hr2
  have HX := hide (heap_alloc_new w2 (.cells #[.bool true, .slice ai l.length ci, .slice none 0 0] 38))
  obtain ⟨B, hB⟩ : ∃ b, b = w2.heap.size := ⟨_, rfl⟩
  have HBl : Hid (w.heap.size ≤ B) := by show _ ≤ _; rw [hB]; exact Nat.le_trans (unhide HB).size hb.size
  clear b2 hb hb2 hr2 ho
  go_wp2_with fail
  rw [← hB] at HX ⊢
  have HBE := hide hB
  clear hB
  generalize w2.alloc (.cells #[.bool true, .slice ai l.length ci, .slice none 0 0] 38) = w3 at *
  refine wp_loop_rounds 1 ?_
  obtain ⟨hc1, _⟩ := blk_facts (unhide HX)
  have x0 := hc1 0 _ rfl
  have x1 := hc1 1 _ rfl
  have x2 := hc1 2 _ rfl
  clear hc1
  rw [rounds_succ]
  go_wp2_with fail
  have m0 : w3.drew.cell? ⟨M, 0, none⟩ = some (.pointer (some ⟨p, 0, none⟩)) := ((unhide HB2).cell (World.block_lt_of_cell? w _ (unhide HM0))).trans (unhide HM0)
  have y0 : w3.drew.cell? ⟨B, 0, none⟩ = some (.bool true) := x0
  have y1 : w3.drew.cell? ⟨B, 1, none⟩ = some (.slice ai l.length ci) := x1
  have y2 : w3.drew.cell? ⟨B, 2, none⟩ = some (.slice none 0 0) := x2
  have HP := hide (hput_bareS (p := p) (d := d) (h := h) (c := c) ⟨true, l, []⟩ rfl ai none ci 0 w3.drew ((unhide HH).grow (unhide HB2).drew) ⟨(unhide HR2).grow (below_drew _), Or.inl rfl⟩ (unhide HL) (by simp) (unhide HBR) (unhide HC) (unhide HOK))
  have HBF : Hid (B ∉ foot p pa pb pk fd) := fun hx => by have := (unhide HH).lt B hx; have := unhide HBl; omega
  go_region_held3 (fun w' => w'.cell? ⟨M, 0, none⟩ = some (.pointer (some ⟨p, 0, none⟩)) ∧ w'.cell? ⟨B, 0, none⟩ = some (.bool true) ∧ w'.cell? ⟨B, 1, none⟩ = some (.slice ai l.length ci) ∧ w'.cell? ⟨B, 2, none⟩ = some (.slice none 0 0))
    (first | assumption | exact ⟨m0, y0, y1, y2⟩ | exact unhide HS4)
    (first | (go_at_call 10; refine (unhide HP).mono ?_; rintro e w4 ⟨rfl, ht⟩; have HS4 := hide (And.intro (cell_moves ht.choose_spec.2.1 m0 (unhide HMF)) (And.intro (cell_moves ht.choose_spec.2.1 y0 (unhide HBF)) (And.intro (cell_moves ht.choose_spec.2.1 y1 (unhide HBF)) (cell_moves ht.choose_spec.2.1 y2 (unhide HBF))))); have HT4 := hide ht; clear ht))
  clear HP HS4 m0 y0 y1 y2 x0 x1 x2 HX HR2 e3 e4 HS HBE
  obtain ⟨P, hP⟩ : ∃ x, x = (putR h ⟨true, l, []⟩).1 := ⟨_, rfl⟩
  rw [← hP]
  have HPE := hide hP
  clear hP
  obtain ⟨F', k1, k2, k3⟩ := unhide HT4
  have hMlt : M < w.heap.size := World.block_lt_of_cell? w _ (unhide HM0)
  have hbM : w4.heap[M]? = w.heap[M]? := (k2.block M (Nat.lt_of_lt_of_le hMlt (unhide HB2).drew.size) (unhide HMF)).trans ((unhide HB2).drew.block M hMlt)
  have m10 : w4.cell? ⟨M, 10, none⟩ = some (.slice none 0 0) := (World.cell?_of_block hbM).trans (unhide HM10)
  have hMlt4 : M < w4.heap.size := World.block_lt_of_cell? w4 _ m10
  have hF4 : Hid (∀ W : World, W.heap[M]? = w4.heap[M]? → W.frozen? ⟨M, 10, none⟩ = false) := fun W hW => by
    obtain ⟨cs, hcs⟩ := unhide HK
    simp [World.frozen?, hW, hbM, hcs]
  have HK1 := hide k1
  have HK2 := hide k2
  have HK3 := hide k3
  have HBM := hide hbM
  have HML := hide hMlt4
  clear k1 k2 k3 hbM hMlt hMlt4
  go_wp2_with (first
    | (at_builtin; refine L3.app_gen (wr := w4) (v := .slice none 0 0) (n := 0) (xs := []) (news := [.int .i64 P]) (B := 0) Tryz.underlying71 info3 rfl (by decide) rfl _ _ rfl rfl rfl (World.ownsRow_nil w4 0 3 1) (Nat.zero_le _) rfl (by intro u hu; simp at hu; subst hu; rfl) (by omega) (by omega) ?_; intro a5 cap5 w5 hown5 hg5 hloc; have hm5 : L5.Moves [] w4 w5 := L5.Moves.of_grown hg5 (fun k hk => by cases hk); have hb5 := hm5.block M (unhide HML) List.not_mem_nil; have z10 := (World.cell?_of_block (a := ⟨M, 10, none⟩) hb5).trans m10; have zf := unhide hF4 w5 hb5; have HY := hide (And.intro hown5 (And.intro hm5 hloc)); clear hown5 hg5 hloc hm5 hb5)
    | go_in)
  go_ret2
  obtain ⟨hown, hm5, hloc⟩ := unhide HY
  have hI : Ints w5 (.slice a5 1 cap5) [P] := hown
  obtain ⟨g, rfl, hgc⟩ := Ints.at (l := [P]) hI 0 (by simp)
  have hg4 : w4.heap.size ≤ g := by
    rcases hloc with e | ⟨g', e, hg'⟩
    · simp [Value.ownBlock] at e
    · simp [Value.ownBlock] at e
      omega
  have hMlt : M < w.heap.size := World.block_lt_of_cell? w _ (unhide HM0)
  have hsz := (unhide HB2).drew.size
  have hgM : g ≠ M := by have := unhide HML; omega
  have hMF' : M ∉ foot p pa pb pk F' := fun hx => by
    have h0 := unhide HMF
    simp only [foot, List.mem_cons, not_or] at hx h0
    rcases hx with q | q | q | q | q
    · exact h0.1 q
    · exact h0.2.1 q
    · exact h0.2.2.1 q
    · exact h0.2.2.2.1 q
    · rcases unhide HK3 M q with h1 | h1
      · exact h0.2.2.2.2 h1
      · omega
  have hM0 : M ≠ 0 := fun e => by
    have h1 := (unhide HH).tab 0 (by omega)
    have h2 := unhide HM0
    rw [e] at h2
    simp [h2] at h1
  refine ⟨g, cap5, by rw [← unhide HPE]; rfl, ?_, ?_, ?_, F', ?_, hMF', ?_, ?_⟩
  · exact World.cell?_setCell_same _ _ _ z10
  · rw [← unhide HPE]
    exact (World.cell?_setCell_other _ _ _ _ (by simp)).trans hgc
  · have := (unhide HK2).size
    omega
  · refine HeapAt.aside ((unhide HK1).grow hm5.to_below) (fq := [M]) (L5.Moves.set w5 M 10 _ (by simp)) (fun y hy => by simp at hy; rw [hy]; exact hMF') (by simp; omega) (fun y hy hyl h3 => ?_)
    simp at hy
    subst hy
    obtain ⟨cs, hcs⟩ := unhide HK
    obtain ⟨cs', hcs'⟩ := h3
    rw [hm5.block _ (unhide HML) List.not_mem_nil, unhide HBM, hcs] at hcs'
    injection hcs' with e
    injection e with _ e
    exact absurd e (by decide)
  · have q1 : Moves (M :: foot p pa pb pk fd) w w3.drew := L5.Moves.of_below _ (unhide HB2).drew
    have q2 : Moves (M :: foot p pa pb pk fd) w3.drew w4 := L5.Moves.mono (unhide HK2) (fun x hx => .inl (List.mem_cons_of_mem _ hx))
    have q3 : Moves (M :: foot p pa pb pk fd) w4 w5 := L5.Moves.mono hm5 (fun x hx => by cases hx)
    exact L5.Moves.then (L5.Moves.then (L5.Moves.then q1 q2) q3) (L5.Moves.set w5 M 10 _ (by simp))
  · intro x hx
    rcases unhide HK3 x hx with h1 | h1
    · exact .inl h1
    · exact .inr (by omega)
end Go.Proofs.YtdelobaiicoogaaGreatDoor
