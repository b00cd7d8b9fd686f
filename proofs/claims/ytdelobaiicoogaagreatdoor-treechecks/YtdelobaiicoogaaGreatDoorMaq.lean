/- Texts that the proof needs, one behind the other. -/
import Derived.Test.YtdelobaiicoogaaGreatDoorMap
import Derived.Test.YtdelobaiicoogaaGreatDoorMag
import Derived.Lib.AppendZeros
/- Put. -/
namespace Go.Proofs.YtdelobaiicoogaaGreatDoor
open Go.ChangeShapes Go.WideShapes Go.ChangeAt Go.RowKit
variable {w w' : World} {p d : Nat} {h : Hp} {c : Nat} {F : List Nat} {a b kb : Nat} {fd : List Nat} {kf : Nat → Option Value}

theorem rise_all {β : Type} {may : ByteArray × β → Bool} : ∀ (l : List (ByteArray × β)) (o : Option ByteArray), L6.rise may o l = true → ∀ x ∈ l, may x = true
  | [], _, _, x, hx => by simp at hx
  | y :: t, o, hr, x, hx => by
    cases o with
    | none =>
      simp [L6.rise] at hr
      rcases List.mem_cons.1 hx with rfl | hx
      · exact hr.1
      · exact rise_all t _ hr.2 x hx
    | some q =>
      simp [L6.rise] at hr
      rcases List.mem_cons.1 hx with rfl | hx
      · exact hr.1.1
      · exact rise_all t _ hr.2 x hx
theorem enc_ok {n : L6.Nd} (he : (L6.encodeN n).2 = 0) : L6.checkN n = 0 ∧ L6.encodeN n = (L6.strOf (L6.ndL n), 0) := by
  unfold L6.encodeN at he ⊢
  split at he
  · rename_i h
    exact ⟨h, by rw [if_pos h]⟩
  · rename_i h
    exact absurd he h
theorem enc_size {n : L6.Nd} (he : (L6.encodeN n).2 = 0) : (L6.encodeN n).1.size ≤ 1007 := by
  obtain ⟨h1, h2⟩ := enc_ok he
  rw [h2]
  show (L6.strOf (L6.ndL n)).size ≤ 1007
  rw [L6.strOf_size]
  unfold L6.checkN at h1
  split at h1
  · split at h1
    · omega
    · omega
  · omega
theorem enc_places {n : L6.Nd} (he : (L6.encodeN n).2 = 0) : ∀ x ∈ places n, 2 ≤ x ∧ x < 4096 := by
  have hr := L6.checkN_right (enc_ok he).1
  intro x hx
  obtain ⟨y, hy, rfl⟩ := List.mem_map.1 hx
  unfold L6.rightB at hr
  split at hr
  · simp at hr
    rw [hr.1.1] at hy
    simp at hy
  · simp at hr
    have := rise_all _ _ hr.2 y hy
    simp [L6.mayK] at this
    exact ⟨this.1.2, this.2⟩
theorem mayE_zero {l : List L5.St} {ks : List Int} (h : mayE l ks = 0) : (∀ k ∈ ks, 0 < cntL l k) ∧ ∀ k ∈ ks, cntL l k + ks.count k ≤ 5000 := by
  unfold mayE at h
  split at h
  · exact absurd h (by decide)
  · rename_i h1
    split at h
    · exact absurd h (by decide)
    · rename_i h2
      simp at h1 h2
      exact ⟨fun k hk => Nat.pos_of_ne_zero (h1 k hk), fun k hk => h2 k hk⟩
theorem IsHeap.ints (H : IsHeap w p d h c F) {v : Value} {l : List Int} (hv : Ints w v l) (hm : Moves F w w') : Ints w' v l := by
  obtain ⟨a, b, kb, fd, kf, H, rfl⟩ := H
  exact hv.same (fun g hg => hm.block g (hv.lt g hg) (H.row hv hg))
/-- kids are none of a place that nobody holds -/
def Hp.bare (h : Hp) : Prop := ∀ q : Nat, h.cnt (q : Int) = 0 → h.kids q = []

theorem storeR_ok {S : ByteArray} (he : (storeR h S).2.1 = 0) : ∃ i, L5.takeI h.al = some i ∧ storeR h S = ((2 : Int) + (i : Int), 0, { h with dk := L3.writeM h.dk ((2 : Int) + (i : Int)) S, al := L5.takeM h.al h.gen }) ∧ L3.writeE h.dk ((2 : Int) + (i : Int)) S = 0 := by
  unfold storeR at he ⊢
  by_cases h1 : L5.takeE h.al = 0
  · rw [if_neg (fun hn => hn h1)] at he ⊢
    obtain ⟨i, hi, hn⟩ := take_here h1
    rw [hn] at he ⊢
    by_cases h2 : L3.writeE h.dk ((2 : Int) + (i : Int)) S = 0
    · rw [if_neg (fun hn => hn h2)]
      exact ⟨i, hi, rfl, h2⟩
    · rw [if_pos h2] at he
      exact absurd he h2
  · rw [if_pos h1] at he
    exact absurd he h1

theorem kindN_le (n : L6.Nd) : kindN n ≤ 255 := by unfold kindN; split <;> omega
theorem storeR_gen (S : ByteArray) : (storeR h S).2.2.gen = h.gen := by
  unfold storeR
  split
  · rfl
  · split <;> rfl
/-- the cells that stood ahead of it stand behind it -/
theorem store_cells {S : ByteArray} {B : Nat} {v0 v1 v2 : Value} (k : STurned w w' p d (storeR h S).2.2 (c + 1) a b kb fd kf) (hB : B ∉ foot p a b kb fd) (s0 : w.cell? ⟨B, 0, none⟩ = some v0) (s1 : w.cell? ⟨B, 1, none⟩ = some v1) (s2 : w.cell? ⟨B, 2, none⟩ = some v2) :
    w'.cell? ⟨p, 0, none⟩ = some (.pointer (some ⟨a, 0, none⟩)) ∧ w'.cell? ⟨p, 1, none⟩ = some (.pointer (some ⟨d, 0, none⟩)) ∧ w'.cell? ⟨p, 2, none⟩ = some (.int .i64 h.gen) ∧ w'.cell? ⟨B, 0, none⟩ = some v0 ∧ w'.cell? ⟨B, 1, none⟩ = some v1 ∧ w'.cell? ⟨B, 2, none⟩ = some v2 := by
  obtain ⟨fd', k1, k2, _⟩ := k
  have hg := k1.cell2
  rw [storeR_gen] at hg
  exact ⟨k1.cell0, k1.cell1, hg, cell_moves k2 s0 hB, cell_moves k2 s1 hB, cell_moves k2 s2 hB⟩
set_option maxHeartbeats 4000000 in
set_option maxRecDepth 20000 in
theorem hput_any (n : L6.Nd) (ai ak : Option Addr) (ci ck : Nat) (w : World) (H : IsHeap w p d h c F) (hn : L6.Has w n ai ak) (hil : n.its.length ≤ 1100) (hkl : n.kds.length ≤ 1100) (hbare : h.bare) (hc : c ≤ 999990) :
    Calls Tryz.prog 10 #[.pointer (some ⟨p, 0, none⟩), .agg #[.bool n.leaf, .slice ai n.its.length ci, .slice ak n.kds.length ck]] w fun e w' => e = .returned (.tuple #[.int .i64 (putR h n).1, .int .i64 (putR h n).2.1]) ∧ HTurned w w' p d (putR h n).2.2 (c + 2) F := by
  have hb0 := below_alloc w (.cells #[.bool n.leaf, .slice ai n.its.length ci, .slice ak n.kds.length ck] 38)
  have q0 : (w.alloc (.cells #[.bool n.leaf, .slice ai n.its.length ci, .slice ak n.kds.length ck] 38)).cell? ⟨w.heap.size, 0, none⟩ = some (.bool n.leaf) := by simp
  have q1 : (w.alloc (.cells #[.bool n.leaf, .slice ai n.its.length ci, .slice ak n.kds.length ck] 38)).cell? ⟨w.heap.size, 1, none⟩ = some (.slice ai n.its.length ci) := by simp
  have q2 : (w.alloc (.cells #[.bool n.leaf, .slice ai n.its.length ci, .slice ak n.kds.length ck] 38)).cell? ⟨w.heap.size, 2, none⟩ = some (.slice ak n.kds.length ck) := by simp
  have HN := hide (hn.grow hb0)
  have HH := hide (H.grow hb0)
  have HH0 := hide H
  have HB := hide hb0
  have HIL := hide hil
  have HKL := hide hkl
  have HBR := hide hbare
  have HC := hide hc
  clear hn H hb0 hil hkl hbare hc
  obtain ⟨B, hB⟩ : ∃ x, x = w.heap.size := ⟨_, rfl⟩
  by_cases hE : (L6.encodeN n).2 = 0
  · go_enter Tryz.func10, Tryz.ntmps10
    go_wp2_with fail
    have HE := hide hE
    rw [← hB] at q0 q1 q2 ⊢
    have HBE := hide hB
    clear hB
    generalize w.alloc (.cells #[.bool n.leaf, .slice ai n.its.length ci, .slice ak n.kds.length ck] 38) = w1 at *
    refine (L6.encode_any n ai ak ci ck w1 (unhide HN) (unhide HIL) (unhide HKL)).mono ?_
    rintro x w2 ⟨rfl, hb2⟩
    rw [hE]
    clear hE
    obtain ⟨Y, hY⟩ : ∃ x, x = (L6.encodeN n).1 := ⟨_, rfl⟩
    rw [← hY]
    have HY := hide hY
    clear hY
    have q0' := (hb2.cell (World.block_lt_of_cell? _ _ q0)).trans q0
    have q1' := (hb2.cell (World.block_lt_of_cell? _ _ q1)).trans q1
    have q2' := (hb2.cell (World.block_lt_of_cell? _ _ q2)).trans q2
    have HN2 := hide ((unhide HN).grow hb2)
    have HH2 := hide ((unhide HH).grow hb2)
    have HB2 := hide (below_then (unhide HB) hb2)
    clear hb2 q0 q1 q2 HN HH HB
    go_wp2_with fail
    refine (placesOf_any n.kds ak ck w2 (unhide HN2).2 (unhide HKL)).mono ?_
    rintro x w3 ⟨v, rfl, hv3, hg3, hb3⟩
    have q0 := (hb3.cell (World.block_lt_of_cell? _ _ q0')).trans q0'
    have q1 := (hb3.cell (World.block_lt_of_cell? _ _ q1')).trans q1'
    have q2 := (hb3.cell (World.block_lt_of_cell? _ _ q2')).trans q2'
    have HV := hide hv3
    have HH3 := hide ((unhide HH2).grow hb3)
    have HB3 := hide (below_then (unhide HB2) hb3)
    clear hb3 hv3 hg3 q0' q1' q2' HN2 HH2 HB2
    have hks : n.kds.map (fun x => x.2) = places n := rfl
    rw [hks] at HV
    have hlen : (places n).length ≤ 1100 := by unfold places; rw [List.length_map]; exact unhide HKL
    have HLEN := hide hlen
    clear hks hlen
    go_wp2_with fail
    refine (mayHold_any (places n) v w3 (unhide HH3) (unhide HV) (enc_places (unhide HE)) (unhide HLEN)).mono ?_
    rintro x w4 ⟨rfl, hb4⟩
    have q0' := (hb4.cell (World.block_lt_of_cell? _ _ q0)).trans q0
    have q1' := (hb4.cell (World.block_lt_of_cell? _ _ q1)).trans q1
    have q2' := (hb4.cell (World.block_lt_of_cell? _ _ q2)).trans q2
    have HV4 := hide ((unhide HV).grow hb4)
    have HH4 := hide ((unhide HH3).grow hb4)
    have HB4 := hide (below_then (unhide HB3) hb4)
    clear hb4 q0 q1 q2 HV HH3 HB3
    by_cases hM : mayE h.al (places n) = 0
    · rw [hM]
      have HM := hide hM
      clear hM
      go_wp2_with fail
      obtain ⟨a, b, kb, fd, kf, H4, rfl⟩ := unhide HH4
      clear HH4
      have hBF : B ∉ foot p a b kb fd := fun hx => by
        have := (unhide HH0).lt B hx
        have := unhide HBE
        omega
      have HBF := hide hBF
      have p0 := H4.cell0
      have p1 := H4.cell1
      have p2 := H4.cell2
      have HH4 : Hid (HeapAt w4.drew p d h c a b kb fd kf) := H4.grow (below_drew w4)
      have hkn : (if n.leaf then (1 : Int) else 2) = ((kindN n : Nat) : Int) := by unfold kindN; split <;> rfl
      have HKN := hide hkn
      have HV4' : Hid (Ints w4.drew v (places n)) := (unhide HV4).grow (below_drew w4)
      have HB4' : Hid (Below w.heap.size w w4.drew) := below_then (unhide HB4) (below_drew w4)
      clear hBF H4 hkn HV4 HB4
      have HV4 := HV4'
      have HB4 := HB4'
      clear HV4' HB4'
      have hSX : (L4.wrapR ((kindN n : Nat) : Int) h.gen Y).1 = sectorN h.gen n := by unfold sectorN; rw [unhide HY]
      have HSX := hide hSX
      clear hSX
      by_cases hW : (storeR h (sectorN h.gen n)).2.1 = 0
      · obtain ⟨i, hi, hst, _⟩ := storeR_ok hW
        have hD : putR h n = ((2 : Int) + (i : Int), 0, { dk := L3.writeM h.dk ((2 : Int) + (i : Int)) (sectorN h.gen n), al := holdAll (L5.takeM h.al h.gen) (places n), gen := h.gen, kids := setK h.kids (2 + i) (places n) }) := by
          unfold putR
          rw [if_neg (fun hn => hn (unhide HE)), if_neg (fun hn => hn (unhide HM)), if_neg (fun hn => hn hW), hst]
          have e : ((2 : Int) + (i : Int)).toNat = 2 + i := by omega
          simp only [e]
        have HD := hide hD
        have HST := hide hst
        obtain ⟨hin, hsn, _⟩ := take_at hi h.gen
        have hfew := (unhide HH4).al.ok.few
        have hi4 : 2 + i < 4096 := by unfold L5.In at hin; omega
        have hk0 : h.kids (2 + i) = [] := unhide HBR (2 + i) (by
          show L5.cntS (L5.sec 2 h.al ((2 + i : Nat) : Int)) = 0
          have e : ((2 + i : Nat) : Int) = (2 : Int) + (i : Int) := by omega
          rw [e, hsn]
          rfl)
        have HI4 := hide hi4
        have HK0 := hide hk0
        clear hW hD hst hin hsn hfew hi hi4 hk0
        obtain ⟨N, hN⟩ : ∃ x : Int, x = (2 : Int) + (i : Int) := ⟨_, rfl⟩
        rw [← hN] at HD HST
        have HNE := hide hN
        clear hN
        go_region_held3 (fun w' => w'.cell? ⟨p, 0, none⟩ = some (.pointer (some ⟨a, 0, none⟩)) ∧ w'.cell? ⟨p, 1, none⟩ = some (.pointer (some ⟨d, 0, none⟩)) ∧ w'.cell? ⟨p, 2, none⟩ = some (.int .i64 h.gen) ∧ w'.cell? ⟨B, 0, none⟩ = some (.bool n.leaf) ∧ w'.cell? ⟨B, 1, none⟩ = some (.slice ai n.its.length ci) ∧ w'.cell? ⟨B, 2, none⟩ = some (.slice ak n.kds.length ck))
          (first | assumption | exact ⟨p0, p1, p2, q0', q1', q2'⟩ | exact ⟨r0, r1, r2, s0, s1, s2⟩ | exact unhide HS6)
          (first
            | (go_at_call 27; go_split_ands; refine (kindOf_any n.leaf _ _ _).mono ?_; rintro e w5 ⟨rfl, hb5⟩; rw [unhide HKN]; have H5 := (unhide HH4).grow hb5; have r0 := H5.cell0; have r1 := H5.cell1; have r2 := H5.cell2; have s0 := (hb5.cell (World.block_lt_of_cell? _ _ (show w4.drew.cell? _ = _ from q0'))).trans q0'; have s1 := (hb5.cell (World.block_lt_of_cell? _ _ (show w4.drew.cell? _ = _ from q1'))).trans q1'; have s2 := (hb5.cell (World.block_lt_of_cell? _ _ (show w4.drew.cell? _ = _ from q2'))).trans q2'; have HH5 := hide H5; have HB5 := hide (below_then (unhide HB4) hb5); have HV5 := hide ((unhide HV4).grow hb5); clear hb5 H5)
            | (go_at_call 26; go_split_ands; refine (store_any (kindN n) Y _ (unhide HH5) (kindN_le n) (by rw [unhide HY]; exact enc_size (unhide HE)) (by have := unhide HC; omega)).mono ?_; rintro e w6 ⟨rfl, ht6⟩; have HS6 := hide (store_cells ht6 (unhide HBF) s0 s1 s2); have HT6 := hide ht6; rw [unhide HSX, unhide HST]; dsimp only; clear ht6))
        clear r0 r1 r2 s0 s1 s2 p0 p1 p2 q0' q1' q2' HS6
        have HT : Hid (HTurned w w6 p d { dk := L3.writeM h.dk N (sectorN h.gen n), al := L5.takeM h.al h.gen, gen := h.gen, kids := h.kids } (c + 1) (foot p a b kb fd)) := by
          have ht := (unhide HT6).turned
          rw [unhide HSX, unhide HST] at ht
          exact HTurned.then (L5.Moves.of_below _ (unhide HB5)) (fun x hx => .inl hx) ht
        have HV6 : Hid (Ints w6 v (places n)) := by
          obtain ⟨fd', _, k2, _⟩ := unhide HT6
          exact IsHeap.ints ⟨a, b, kb, fd, kf, unhide HH5, rfl⟩ (unhide HV5) k2
        clear HT6 HH4 HH5 HV4 HV5 HB4 HB5
        obtain ⟨a0, cap0, rfl⟩ := (unhide HV6).form
        go_wp2_with fail
        go_loopw [53] (fun t wr => ∃ k : Nat, k ≤ (places n).length ∧ t = .int .i64 (k : Int) ∧ HTurned w wr p d { dk := L3.writeM h.dk N (sectorN h.gen n), al := holdAll (L5.takeM h.al h.gen) ((places n).take k), gen := h.gen, kids := h.kids } (c + 1) (foot p a b kb fd) ∧ Ints wr (.slice a0 (places n).length cap0) (places n)) (fun t _ => (places n).length - (intOf t).toNat)
        case atStart => exact ⟨0, Nat.zero_le _, rfl, unhide HT, unhide HV6⟩
        case round =>
          clear HT HV6
          obtain ⟨k, hk, rfl, ht, hv⟩ := hrel
          have hL := unhide HLEN
          by_cases hlt : k < (places n).length
          · obtain ⟨g, rfl, hcell⟩ := hv.at k hlt
            obtain ⟨F1, ⟨a1, b1, kb1, fd1, kf1, H1, rfl⟩, hm1, hf1⟩ := ht
            have hx := enc_places (unhide HE) _ (List.getElem_mem hlt)
            have hI : L5.I64 (places n)[k] := by unfold L5.I64; omega
            have c0 := H1.cell0
            have HH1 := hide H1
            have HI := hide hI
            have HX1 := hide (And.intro hm1 hf1)
            have HV1 := hide hv
            obtain ⟨X, hX⟩ : ∃ y, y = (places n)[k] := ⟨_, rfl⟩
            rw [← hX] at hcell HI
            have HXE := hide hX
            clear H1 hI hm1 hf1 hv hx hX
            go_wp2_with (go_at_call 28; refine (L5.hold_any X _ (unhide HH1).al (unhide HI)).mono ?_; rintro e w7 ⟨rfl, ha, hm⟩; have HX7 := hide (And.intro ha hm); clear ha hm)
            go_roundw
            case rel =>
              obtain ⟨ha, hm⟩ := unhide HX7
              obtain ⟨hm1, hf1⟩ := unhide HX1
              have ht7 := alloc_turned (unhide HH1) hm ha (length_hold _ _)
              have e1 : holdAll (L5.takeM h.al h.gen) ((places n).take (k + 1)) = L5.holdM 2 (holdAll (L5.takeM h.al h.gen) ((places n).take k)) X := by
                rw [List.take_add_one, List.getElem?_eq_getElem hlt, ← unhide HXE]
                unfold holdAll
                rw [List.foldl_append]
                rfl
              refine ⟨k + 1, by omega, by go_num, ?_, ?_⟩
              · rw [e1]
                exact HTurned.then hm1 hf1 ht7
              · obtain ⟨_, _, k2, _⟩ := ht7
                exact IsHeap.ints ⟨a1, b1, kb1, fd1, kf1, unhide HH1, rfl⟩ (unhide HV1) k2
            case measure => simp [intOf]; omega
          · obtain rfl : k = (places n).length := by omega
            rw [List.take_length] at ht
            obtain ⟨F1, H1, hm1, hf1⟩ := ht
            have HH1 := hide H1
            have HX1 := hide (And.intro hm1 hf1)
            have HV1 := hide hv
            have hNn : N = ((2 + i : Nat) : Int) := by rw [unhide HNE]; omega
            have HNn := hide hNn
            clear H1 hm1 hf1 hv hNn
            go_wp2_with (go_at_call 29; rw [unhide HNn]; refine (know_any (2 + i) (unhide HI4) _ (places n) _ (unhide HH1) (unhide HV1) (unhide HK0) (by have := unhide HC; omega)).mono ?_; rintro e w8 ⟨rfl, ht8⟩; have HX8 := hide ht8; clear ht8)
            go_ret2
            rw [unhide HD]
            obtain ⟨hm1, hf1⟩ := unhide HX1
            refine ⟨?_, HTurned.then hm1 hf1 (unhide HX8)⟩
            rw [unhide HNE]
            rfl
      · have hD : putR h n = (0, (storeR h (sectorN h.gen n)).2.1, (storeR h (sectorN h.gen n)).2.2) := by unfold putR; rw [if_neg (fun hn => hn (unhide HE)), if_neg (fun hn => hn (unhide HM)), if_pos hW]
        have hW1 : ((storeR h (sectorN h.gen n)).2.1 == 0) = false := beq_eq_false_iff_ne.2 hW
        have hW2 : ((storeR h (sectorN h.gen n)).2.1 != 0) = true := bne_iff_ne.2 hW
        have HD := hide hD
        clear hW hD
        go_region_held3 (fun w' => w'.cell? ⟨p, 0, none⟩ = some (.pointer (some ⟨a, 0, none⟩)) ∧ w'.cell? ⟨p, 1, none⟩ = some (.pointer (some ⟨d, 0, none⟩)) ∧ w'.cell? ⟨p, 2, none⟩ = some (.int .i64 h.gen) ∧ w'.cell? ⟨B, 0, none⟩ = some (.bool n.leaf) ∧ w'.cell? ⟨B, 1, none⟩ = some (.slice ai n.its.length ci) ∧ w'.cell? ⟨B, 2, none⟩ = some (.slice ak n.kds.length ck))
          (first | assumption | exact ⟨p0, p1, p2, q0', q1', q2'⟩ | exact ⟨r0, r1, r2, s0, s1, s2⟩ | exact unhide HS6)
          (first
            | (go_at_call 27; go_split_ands; refine (kindOf_any n.leaf _ _ _).mono ?_; rintro e w5 ⟨rfl, hb5⟩; rw [unhide HKN]; have H5 := (unhide HH4).grow hb5; have r0 := H5.cell0; have r1 := H5.cell1; have r2 := H5.cell2; have s0 := (hb5.cell (World.block_lt_of_cell? _ _ (show w4.drew.cell? _ = _ from q0'))).trans q0'; have s1 := (hb5.cell (World.block_lt_of_cell? _ _ (show w4.drew.cell? _ = _ from q1'))).trans q1'; have s2 := (hb5.cell (World.block_lt_of_cell? _ _ (show w4.drew.cell? _ = _ from q2'))).trans q2'; have HH5 := hide H5; have HB5 := hide (below_then (unhide HB4) hb5); have HV5 := hide ((unhide HV4).grow hb5); clear hb5 H5)
            | (go_at_call 26; go_split_ands; refine (store_any (kindN n) Y _ (unhide HH5) (kindN_le n) (by rw [unhide HY]; exact enc_size (unhide HE)) (by have := unhide HC; omega)).mono ?_; rintro e w6 ⟨rfl, ht6⟩; have HS6 := hide (store_cells ht6 (unhide HBF) s0 s1 s2); have HT6 := hide ht6; rw [unhide HSX]; clear ht6))
        clear r0 r1 r2 s0 s1 s2 p0 p1 p2 q0' q1' q2'
        go_wp2
        go_ret2
        rw [unhide HD]
        refine ⟨rfl, ?_⟩
        have ht := (unhide HT6).turned
        rw [unhide HSX] at ht
        obtain ⟨F', k1, k2, k3⟩ := HTurned.then (L5.Moves.of_below _ (unhide HB5)) (fun x hx => .inl hx) ht
        exact ⟨F', k1.mono (by omega), k2, k3⟩
    · have hM1 : (mayE h.al (places n) == 0) = false := beq_eq_false_iff_ne.2 hM
      have hM2 : (mayE h.al (places n) != 0) = true := bne_iff_ne.2 hM
      have hD : putR h n = (0, mayE h.al (places n), h) := by unfold putR; rw [if_neg (fun hn => hn (unhide HE)), if_pos hM]
      obtain ⟨E, hEE⟩ : ∃ x, x = mayE h.al (places n) := ⟨_, rfl⟩
      rw [← hEE] at hM1 hM2 hD ⊢
      have HD := hide hD
      clear hM hEE hD
      go_wp2
      go_ret2
      rw [unhide HD]
      exact ⟨rfl, ((unhide HH0).mono (by omega)).stays (unhide HB4)⟩
  · have hD : putR h n = (0, ((L6.encodeN n).2 : Int), h) := by unfold putR; rw [if_pos hE]
    have hE1 : (((L6.encodeN n).2 : Int) == 0) = false := beq_eq_false_iff_ne.2 (by omega)
    have hE2 : (((L6.encodeN n).2 : Int) != 0) = true := bne_iff_ne.2 (by omega)
    obtain ⟨E, hEE⟩ : ∃ x : Int, x = ((L6.encodeN n).2 : Int) := ⟨_, rfl⟩
    rw [← hEE] at hE1 hE2 hD
    have HD := hide hD
    have HEE := hide hEE
    clear hE hEE hD hB
    go_enter Tryz.func10, Tryz.ntmps10
    go_wp2_with (go_at_call 23; refine (L6.encode_any n ai ak ci ck _ (unhide HN) (unhide HIL) (unhide HKL)).mono ?_; rintro x w2 ⟨rfl, hb2⟩; rw [← unhide HEE]; have HB2 := hide (below_then (unhide HB) hb2); clear hb2)
    go_ret2
    rw [unhide HD]
    exact ⟨rfl, ((unhide HH0).mono (by omega)).stays (unhide HB2)⟩
end Go.Proofs.YtdelobaiicoogaaGreatDoor

/- Drop: a closure that calls itself. -/
namespace Go.Proofs.YtdelobaiicoogaaGreatDoor
open Go.ChangeShapes Go.WideShapes Go.ChangeAt Go.RowKit
variable {w w' : World} {p d : Nat} {h : Hp} {c : Nat} {F : List Nat} {a b kb : Nat} {fd : List Nat} {kf : Nat → Option Value}

theorem Ints.len {v : Value} {l : List Int} (h : Ints w v l) : l.length ≤ maxLen := by
  rcases h.2 with ⟨_, h0⟩ | ⟨g, cap, cur, rfl, _, hg, hc, hm, _⟩
  · rw [h0]; exact Nat.zero_le _
  · omega
end Go.Proofs.YtdelobaiicoogaaGreatDoor

/- Drop. -/
namespace Go.Proofs.YtdelobaiicoogaaGreatDoor
open Go.ChangeShapes Go.WideShapes Go.ChangeAt Go.RowKit
variable {w w' : World} {p d : Nat} {h : Hp} {c : Nat} {F : List Nat}

end Go.Proofs.YtdelobaiicoogaaGreatDoor

/- Where a key stands, as the program tells it. -/
namespace Go.Proofs.YtdelobaiicoogaaGreatDoor.L6
open Go.ChangeShapes Go.WideShapes Go.ChangeAt Go.RowKit

/-- how many keys are below, up to one that isn't; whether that is just the key -/
def findK : List ByteArray → ByteArray → Nat × Bool
  | [], _ => (0, false)
  | k :: t, key => if less k key then ((findK t key).1 + 1, (findK t key).2) else (0, k.toList == key.toList)
def Fupto (ks : List ByteArray) (key : ByteArray) (k : Nat) : Prop := findK ks key = ((findK (ks.drop k) key).1 + k, (findK (ks.drop k) key).2)
theorem Fupto.start (ks : List ByteArray) (key : ByteArray) : Fupto ks key 0 := rfl
theorem Fupto.next {ks : List ByteArray} {key x : ByteArray} {k : Nat} (h : Fupto ks key k) (hx : ks[k]? = some x) (hl : less x key = true) : Fupto ks key (k + 1) := by
  unfold Fupto at *
  rw [h, drop_get hx]
  simp only [findK, hl, if_true]
  exact Prod.ext (by show _ + 1 + k = _ + (k + 1); omega) rfl
theorem Fupto.stop {ks : List ByteArray} {key x : ByteArray} {k : Nat} (h : Fupto ks key k) (hx : ks[k]? = some x) (hl : less x key = false) : findK ks key = (k, x.toList == key.toList) := by
  rw [h, drop_get hx]
  simp [findK, hl]
theorem Fupto.done {ks : List ByteArray} {key : ByteArray} (h : Fupto ks key ks.length) : findK ks key = (ks.length, false) := by
  rw [h, List.drop_length]
  simp [findK]
theorem map_get {β : Type} {l : List (ByteArray × β)} {k : Nat} {x : ByteArray × β} (h : l[k]? = some x) : (l.map (fun x => x.1))[k]? = some x.1 := by
  rw [List.getElem?_map, h]
  rfl
theorem ret_ib {a a' : Int} {b b' : Bool} (h : a = a') (h' : b = b') : Ending.returned (.tuple #[.int .i64 a, .bool b]) = .returned (.tuple #[.int .i64 a', .bool b']) := by rw [h, h']

set_option maxRecDepth 10000 in
set_option maxHeartbeats 2000000 in
theorem findI_any (a : Option Addr) (cap : Nat) (l : List It) (key : ByteArray) (w : World) (hr : Row Value.string w a l) (hl : l.length ≤ 1000000) :
    Calls Tryz.prog 76 #[.slice a l.length cap, .func (.func 77) #[] #[], .string key] w fun e w' => e = .returned (.tuple #[.int .i64 ((findK (l.map (fun x => x.1)) key).1 : Int), .bool (findK (l.map (fun x => x.1)) key).2]) ∧ Below w.heap.size w w' := by
  have HR := hide hr
  clear hr
  go_enter Tryz.func76, Tryz.ntmps76
  go_wp2
  go_loopw [13] (fun t wr => ∃ k : Nat, k ≤ l.length ∧ t = .int .i64 k ∧ Fupto (l.map (fun x => x.1)) key k ∧ Below w.heap.size w wr) (fun t _ => l.length - (intOf t).toNat)
  case atStart => exact ⟨0, Nat.zero_le _, rfl, Fupto.start _ _, Below.refl _ _⟩
  case round =>
    obtain ⟨k, hk, rfl, hu, hbel⟩ := hrel
    have HU := hide hu
    have HBel := hide hbel
    clear hu hbel
    by_cases hlt : k < l.length
    · obtain ⟨b, off, rfl, hr⟩ := (unhide HR).at hlt
      obtain ⟨⟨x, val⟩, hx⟩ := get_some hlt
      have c0 := cell_keep_of (unhide HBel) (hr k _ hx).1
      have c1 := cell_keep_of (unhide HBel) (hr k _ hx).2
      simp only at c0 c1
      have HX := hide (map_get hx)
      have HB2 := hide (below_then (unhide HBel) (below_alloc wr (.cells #[.string x, .string val] 58)))
      have HC := hide (fun W => itemKey_any x val W)
      clear hx hr HR
      by_cases hls : less x key = true
      · have HLS := hide hls
        have hls' : Op.bytesLess x.toList key.toList = true := hls
        clear hls
        go_wp2_with (go_at_call 77; refine (unhide HC _).mono ?_; rintro e w3 ⟨rfl, hb⟩; have HB3 := hide (below_then (unhide HB2) hb); clear hb)
        go_roundw
        case rel => exact ⟨k + 1, by omega, by go_num, (unhide HU).next (unhide HX) (unhide HLS), unhide HB3⟩
        case measure => simp [intOf]; omega
      · have hls : less x key = false := by simpa using hls
        have HE := hide ((unhide HU).stop (unhide HX) hls)
        have hls' : Op.bytesLess x.toList key.toList = false := hls
        clear hls
        go_wp2_with (go_at_call 77; refine (unhide HC _).mono ?_; rintro e w3 ⟨rfl, hb⟩; have HB3 := hide (below_then (unhide HB2) hb); clear hb)
        go_ret2
        exact ⟨ret_ib (by rw [unhide HE]) (by rw [unhide HE]), unhide HB3⟩
    · obtain rfl : k = l.length := by omega
      have HD : Hid (findK (l.map (fun x => x.1)) key = (l.length, false)) := by
        show _ = _
        have h := unhide HU
        have e : l.length = (l.map (fun x => x.1)).length := by simp
        rw [e] at h
        rw [h.done, ← e]
      go_wp2
      go_ret2
      exact ⟨ret_ib (by rw [unhide HD]) (by rw [unhide HD]), unhide HBel⟩

set_option maxRecDepth 10000 in
set_option maxHeartbeats 2000000 in
theorem findK_any (a : Option Addr) (cap : Nat) (l : List Kd) (key : ByteArray) (w : World) (hr : Row kv w a l) (hl : l.length ≤ 1000000) :
    Calls Tryz.prog 78 #[.slice a l.length cap, .func (.func 79) #[] #[], .string key] w fun e w' => e = .returned (.tuple #[.int .i64 ((findK (l.map (fun x => x.1)) key).1 : Int), .bool (findK (l.map (fun x => x.1)) key).2]) ∧ Below w.heap.size w w' := by
  have HR := hide hr
  clear hr
  go_enter Tryz.func78, Tryz.ntmps78
  go_wp2
  go_loopw [13] (fun t wr => ∃ k : Nat, k ≤ l.length ∧ t = .int .i64 k ∧ Fupto (l.map (fun x => x.1)) key k ∧ Below w.heap.size w wr) (fun t _ => l.length - (intOf t).toNat)
  case atStart => exact ⟨0, Nat.zero_le _, rfl, Fupto.start _ _, Below.refl _ _⟩
  case round =>
    obtain ⟨k, hk, rfl, hu, hbel⟩ := hrel
    have HU := hide hu
    have HBel := hide hbel
    clear hu hbel
    by_cases hlt : k < l.length
    · obtain ⟨b, off, rfl, hr⟩ := (unhide HR).at hlt
      obtain ⟨⟨x, val⟩, hx⟩ := get_some hlt
      have c0 := cell_keep_of (unhide HBel) (hr k _ hx).1
      have c1 := cell_keep_of (unhide HBel) (hr k _ hx).2
      simp only at c0 c1
      have HX := hide (map_get hx)
      have HB2 := hide (below_then (unhide HBel) (below_alloc wr (.cells #[.string x, .int .i64 val] 76)))
      have HC := hide (fun W => kidKey_any x val W)
      clear hx hr HR
      by_cases hls : less x key = true
      · have HLS := hide hls
        have hls' : Op.bytesLess x.toList key.toList = true := hls
        clear hls
        go_wp2_with (go_at_call 79; refine (unhide HC _).mono ?_; rintro e w3 ⟨rfl, hb⟩; have HB3 := hide (below_then (unhide HB2) hb); clear hb)
        go_roundw
        case rel => exact ⟨k + 1, by omega, by go_num, (unhide HU).next (unhide HX) (unhide HLS), unhide HB3⟩
        case measure => simp [intOf]; omega
      · have hls : less x key = false := by simpa using hls
        have HE := hide ((unhide HU).stop (unhide HX) hls)
        have hls' : Op.bytesLess x.toList key.toList = false := hls
        clear hls
        go_wp2_with (go_at_call 79; refine (unhide HC _).mono ?_; rintro e w3 ⟨rfl, hb⟩; have HB3 := hide (below_then (unhide HB2) hb); clear hb)
        go_ret2
        exact ⟨ret_ib (by rw [unhide HE]) (by rw [unhide HE]), unhide HB3⟩
    · obtain rfl : k = l.length := by omega
      have HD : Hid (findK (l.map (fun x => x.1)) key = (l.length, false)) := by
        show _ = _
        have h := unhide HU
        have e : l.length = (l.map (fun x => x.1)).length := by simp
        rw [e] at h
        rw [h.done, ← e]
      go_wp2
      go_ret2
      exact ⟨ret_ib (by rw [unhide HD]) (by rw [unhide HD]), unhide HBel⟩

/-- the keys of a node's entries -/
def keysN (n : Nd) : List ByteArray := if n.leaf then n.its.map (fun x => x.1) else n.kds.map (fun x => x.1)

set_option maxRecDepth 10000 in
set_option maxHeartbeats 1000000 in
theorem find_any (n : Nd) (ai ak : Option Addr) (ci ck : Nat) (key : ByteArray) (w : World) (hn : Has w n ai ak) (hil : n.its.length ≤ 1000000) (hkl : n.kds.length ≤ 1000000) :
    Calls Tryz.prog 43 #[.agg #[.bool n.leaf, .slice ai n.its.length ci, .slice ak n.kds.length ck], .string key] w fun e w' => e = .returned (.tuple #[.int .i64 ((findK (keysN n) key).1 : Int), .bool (findK (keysN n) key).2]) ∧ Below w.heap.size w w' := by
  obtain ⟨L, its, kds⟩ := n
  simp only at hil hkl
  have hb0 := below_alloc w (.cells #[.bool L, .slice ai its.length ci, .slice ak kds.length ck] 38)
  have HI := hide (findI_any ai ci its key _ (hn.1.grow hb0) hil)
  have HK := hide (findK_any ak ck kds key _ (hn.2.grow hb0) hkl)
  have HB := hide hb0
  clear hn hb0
  cases L with
  | true =>
    have e : keysN ⟨true, its, kds⟩ = its.map (fun x => x.1) := rfl
    rw [e]
    clear e HK
    generalize findK (its.map (fun x => x.1)) key = T at *
    go_enter Tryz.func43, Tryz.ntmps43
    go_wp2_with (go_at_call 76; refine (unhide HI).mono ?_; rintro x w2 ⟨rfl, hb⟩)
    go_ret2
    exact ⟨rfl, below_then (unhide HB) hb⟩
  | false =>
    have e : keysN ⟨false, its, kds⟩ = kds.map (fun x => x.1) := rfl
    rw [e]
    clear e HI
    generalize findK (kds.map (fun x => x.1)) key = T at *
    go_enter Tryz.func43, Tryz.ntmps43
    go_wp2_with (go_at_call 78; refine (unhide HK).mono ?_; rintro x w2 ⟨rfl, hb⟩)
    go_ret2
    exact ⟨rfl, below_then (unhide HB) hb⟩
end Go.Proofs.YtdelobaiicoogaaGreatDoor.L6

/- slices.Grow of none, slices.Concat, of items. -/
namespace Go.Proofs.YtdelobaiicoogaaGreatDoor
open Go.ChangeShapes Go.WideShapes Go.ChangeAt Go.RowKit

abbrev itV := Value.string
/-- a row of items of one's own -/
abbrev OwnI (B : Nat) (w : World) (v : Value) (l : List L6.It) : Prop := L6.OwnE itV 58 B w v l
theorem pairs_one {β : Type} {sv : β → Value} (hs : ∀ y, (sv y).oneCell' = true) (l : List (ByteArray × β)) : ∀ u ∈ L6.pairs sv l, u.oneCell' = true := by
  induction l with
  | nil => intro u hu; cases hu
  | cons x t ih =>
    intro u hu
    have e : L6.pairs sv (x :: t) = Value.string x.1 :: sv x.2 :: L6.pairs sv t := rfl
    rw [e] at hu
    rcases List.mem_cons.1 hu with rfl | hu
    · rfl
    · rcases List.mem_cons.1 hu with rfl | hu
      · exact hs _
      · exact ih u hu
theorem pairs_len {β : Type} (sv : β → Value) (l : List (ByteArray × β)) : (L6.pairs sv l).length = l.length * 2 := by
  induction l with
  | nil => rfl
  | cons x t ih =>
    have e : L6.pairs sv (x :: t) = Value.string x.1 :: sv x.2 :: L6.pairs sv t := rfl
    rw [e, List.length_cons, List.length_cons, List.length_cons, ih]
    omega
/-- append of what another slice has, wherever it lies -/
theorem run_app_row (B : Nat) (ty : TypeId) (w : World) (v : Value) (l ys : List L6.It) (a : Option Addr) (cap : Nat) (hown : OwnI B w v l) (hrow : L6.Row itV w a ys) (hl : l.length + ys.length ≤ 1000000) (hB : B ≤ w.heap.size) :
    ∃ v' w', (Builtin.append_ #[35, 35] ty #[v, .slice a ys.length cap]).run Tryz.prog w = .ok v' w' ∧ OwnI B w' v' (l ++ ys) ∧ w.grownBy w' v.ownBlock ∧ (v'.ownBlock = v.ownBlock ∨ v'.ownBlock = some w.heap.size) := by
  obtain ⟨i0, hi, hz0, hz1, hz2⟩ := info_parts L6.info58
  have ho := hown
  unfold OwnI L6.OwnE at ho
  by_cases hy : ys = []
  · subst hy
    refine ⟨v, w, ?_, by rw [List.append_nil]; exact hown, ⟨rfl, rfl, rfl, Nat.le_refl _, fun _ _ _ => rfl⟩, .inl rfl⟩
    rcases ho.2 with ⟨rfl, hn⟩ | ⟨g, cp, cur, rfl, _, _, hnc, _⟩
    · cases a <;> simp [Builtin.append_, run_underlying Tryz.underlying35, sizeOf, typeInfo, hi, Builtin.lenOf, Builtin.firstCells, loadCells, loadCellsFrom]
    · cases a <;> simp [Builtin.append_, run_underlying Tryz.underlying35, sizeOf, typeInfo, hi, Builtin.lenOf, Builtin.firstCells, hnc, storeCells, loadCells, loadCellsFrom]
  · rcases hrow with h | ⟨b, off, rfl, hr⟩
    · exact absurd h hy
    · obtain ⟨v', w', hrn, ho', hg, _, hloc⟩ := run_append_own_at (P := Tryz.prog) w B 35 ty 58 i0 (.agg #[.string ByteArray.empty, .string ByteArray.empty]) 2 32 Tryz.underlying35 hi hz0 hz1 hz2 rfl (by decide) v l.length (L6.pairs itV l) ho ⟨b, off, none⟩ ys.length cap (L6.pairs itV ys) (pairs_len _ _)
        (fun j u hj => by
          rw [Go.WideShapes.add_plain]
          have hjl : j < ys.length * 2 := by rw [← pairs_len itV]; exact (List.getElem?_eq_some_iff.1 hj).1
          obtain ⟨x, hx⟩ := L6.get_some (l := ys) (k := j / 2) (by omega)
          obtain ⟨c0, c1⟩ := hr _ _ hx
          obtain ⟨p0, p1⟩ := L6.pairs_get itV ys _ _ hx
          rcases Nat.mod_two_eq_zero_or_one j with e | e
          · have ej : j = j / 2 * 2 := by omega
            rw [ej] at hj ⊢
            rw [p0] at hj
            cases hj
            exact c0
          · have ej : j = j / 2 * 2 + 1 := by omega
            rw [ej] at hj ⊢
            rw [p1] at hj
            cases hj
            exact c1)
        (pairs_one (fun _ => rfl) ys) (by unfold maxLen; omega) (by omega) hB
      refine ⟨v', w', hrn, ?_, hg, hloc⟩
      unfold OwnI L6.OwnE
      rw [List.length_append, L6.pairs_append]
      exact ho'
/-- slices.Grow of none -/
def grownW (w : World) (n : Nat) : World := w.drew.alloc (.cells (Builtin.zeroCells (Value.agg #[.string ByteArray.empty, .string ByteArray.empty]).cells n ++ Builtin.zeroCells (Value.agg #[.string ByteArray.empty, .string ByteArray.empty]).cells (grownCap w n 0 58 - n)) 58)
theorem grown_own (w : World) (n : Nat) (hn : n ≤ 1000000) : OwnI w.heap.size (grownW w n) (.slice (some ⟨w.heap.size, 0, none⟩) 0 (grownCap w n 0 58)) [] := by
  have hge := grownCap_ge w n 0 58
  have hle : grownCap w n 0 58 ≤ maxLen := grownCap_le_maxLen w n 0 58 (by unfold maxLen; omega)
  exact World.ownsRow_made w.drew _ _ (Nat.le_refl _) hle (by
    simp only [Array.size_append, size_zeroCells]
    show n * 2 + (grownCap w n 0 58 - n) * 2 = grownCap w n 0 58 * 2
    omega)
set_option maxHeartbeats 2000000 in
set_option maxRecDepth 20000 in
theorem grow_any (n : Nat) (hn : n ≤ 1000000) (w : World) :
    Calls Tryz.prog 86 #[.slice none 0 0, .int .i64 (n : Int)] w fun e w' => ∃ v, e = .returned v ∧ OwnI w.heap.size w' v [] ∧ Below w.heap.size w w' := by
  have h1 : ¬ (n : Int) < 0 := by omega
  by_cases h0 : n = 0
  · subst h0
    go_enter Tryz.func86, Tryz.ntmps86
    go_wp2
    go_ret
    exact ⟨_, rfl, L6.OwnE.nil _ _ _ _, Below.refl _ _⟩
  · obtain ⟨i0, hi, hz0, hz1, hz2⟩ := info_parts L6.info58
    have happ := fun ty => Lib.run_append_nil_zeros (P := Tryz.prog) w 35 3 ty 58 i0 _ .i64 .i64 Tryz.underlying35 Tryz.underlying3 hi hz0 n (by omega) (by omega) (by omega) (by rw [hz2]; omega)
    have hge := grownCap_ge w n 0 58
    have HO := hide (grown_own w n hn)
    have h2 : 0 < (n : Int) := by omega
    have hw : IntKind.i64.wrap ((n : Int) - 0) = (n : Int) := by rw [IntKind.wrap_i64]; omega
    have HA := hide happ
    have HW : Hid (grownW w n = w.drew.alloc (.cells (Builtin.zeroCells (Value.agg #[.string ByteArray.empty, .string ByteArray.empty]).cells n ++ Builtin.zeroCells (Value.agg #[.string ByteArray.empty, .string ByteArray.empty]).cells (grownCap w n 0 58 - n)) 58)) := rfl
    have HBW : Hid (Below w.heap.size w (grownW w n)) := ((Below.refl _ w).drew).alloc (by simp) _
    generalize grownCap w n 0 58 = cp at *
    clear happ hi hz0 hz1 hz2
    go_enter Tryz.func86, Tryz.ntmps86
    go_wp2_with (at_builtin; refine Lib.wpList_append_run _ rfl _ _ _ _ rfl _ _ rfl rfl _ _ (unhide HA _) ?_; rw [← unhide HW])
    go_ret
    exact ⟨_, rfl, unhide HO, unhide HBW⟩
end Go.Proofs.YtdelobaiicoogaaGreatDoor
