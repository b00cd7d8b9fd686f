/- Texts that the proof needs, one behind the other. -/
import Derived.Test.YtlmgmdnmghgkbaaGreatDoorMah
import Derived.Test.YtlmgmdnmghgkbaaGreatDoorMae
import Derived.Deep.QuietTactic
import Derived.BigQuiet
import Derived.Lib.Strings
import Derived.Test.YtlmgmdnmghgkbaaGreatDoorMad
import Derived.OwnWalk
/- Put. -/
namespace Go.Proofs.YtlmgmdnmghgkbaaGreatDoor
open Go.ChangeShapes Go.WideShapes Go.ChangeAt Go.RowKit
variable {w w' : World} {p d : Nat} {h : Hp} {c : Nat} {F : List Nat} {a b kb : Nat} {fd : List Nat} {kf : Nat → Option Value}

theorem rise_all {β : Type} {may : ByteArray × β → Bool} : ∀ (l : List (ByteArray × β)) (o : Option ByteArray), L6.rise may o l = true → ∀ x ∈ l, may x = true
  | [], _, _, x, hx => by simp at hx
  | y :: t, o, hr, x, hx => by
    cases o with
    | none =>
      simp [L6.rise] at hr
      rcases List.mem_cons.1 hx with rfl | hx
      · exact hr.1
      · exact rise_all t _ hr.2 x hx
    | some q =>
      simp [L6.rise] at hr
      rcases List.mem_cons.1 hx with rfl | hx
      · exact hr.1.1
      · exact rise_all t _ hr.2 x hx
theorem enc_ok {n : L6.Nd} (he : (L6.encodeN n).2 = 0) : L6.checkN n = 0 ∧ L6.encodeN n = (L6.strOf (L6.ndL n), 0) := by
  unfold L6.encodeN at he ⊢
  split at he
  · rename_i h
    exact ⟨h, by rw [if_pos h]⟩
  · rename_i h
    exact absurd he h
theorem enc_size {n : L6.Nd} (he : (L6.encodeN n).2 = 0) : (L6.encodeN n).1.size ≤ 1007 := by
  obtain ⟨h1, h2⟩ := enc_ok he
  rw [h2]
  show (L6.strOf (L6.ndL n)).size ≤ 1007
  rw [L6.strOf_size]
  unfold L6.checkN at h1
  split at h1
  · split at h1
    · omega
    · omega
  · omega
theorem enc_places {n : L6.Nd} (he : (L6.encodeN n).2 = 0) : ∀ x ∈ places n, 2 ≤ x ∧ x < 4096 := by
  have hr := L6.checkN_right (enc_ok he).1
  intro x hx
  obtain ⟨y, hy, rfl⟩ := List.mem_map.1 hx
  unfold L6.rightB at hr
  split at hr
  · simp at hr
    rw [hr.1.1] at hy
    simp at hy
  · simp at hr
    have := rise_all _ _ hr.2 y hy
    simp [L6.mayK] at this
    exact ⟨this.1.2, this.2⟩
theorem mayE_zero {l : List L5.St} {ks : List Int} (h : mayE l ks = 0) : (∀ k ∈ ks, 0 < cntL l k) ∧ ∀ k ∈ ks, cntL l k + ks.count k ≤ 5000 := by
  unfold mayE at h
  split at h
  · exact absurd h (by decide)
  · rename_i h1
    split at h
    · exact absurd h (by decide)
    · rename_i h2
      simp at h1 h2
      exact ⟨fun k hk => Nat.pos_of_ne_zero (h1 k hk), fun k hk => h2 k hk⟩
theorem IsHeap.ints (H : IsHeap w p d h c F) {v : Value} {l : List Int} (hv : Ints w v l) (hm : Moves F w w') : Ints w' v l := by
  obtain ⟨a, b, kb, fd, kf, H, rfl⟩ := H
  exact hv.same (fun g hg => hm.block g (hv.lt g hg) (H.row hv hg))
/-- kids are none of a place that nobody holds -/
def Hp.bare (h : Hp) : Prop := ∀ q : Nat, h.cnt (q : Int) = 0 → h.kids q = []

theorem storeR_ok {S : ByteArray} (he : (storeR h S).2.1 = 0) : ∃ i, L5.takeI h.al = some i ∧ storeR h S = ((2 : Int) + (i : Int), 0, { h with dk := L3.writeM h.dk ((2 : Int) + (i : Int)) S, al := L5.takeM h.al h.gen }) ∧ L3.writeE h.dk ((2 : Int) + (i : Int)) S = 0 := by
  unfold storeR at he ⊢
  by_cases h1 : L5.takeE h.al = 0
  · rw [if_neg (fun hn => hn h1)] at he ⊢
    obtain ⟨i, hi, hn⟩ := take_here h1
    rw [hn] at he ⊢
    by_cases h2 : L3.writeE h.dk ((2 : Int) + (i : Int)) S = 0
    · rw [if_neg (fun hn => hn h2)]
      exact ⟨i, hi, rfl, h2⟩
    · rw [if_pos h2] at he
      exact absurd he h2
  · rw [if_pos h1] at he
    exact absurd he h1

theorem kindN_le (n : L6.Nd) : kindN n ≤ 255 := by unfold kindN; split <;> omega
theorem storeR_gen (S : ByteArray) : (storeR h S).2.2.gen = h.gen := by
  unfold storeR
  split
  · rfl
  · split <;> rfl
/-- the cells that stood ahead of it stand behind it -/
theorem store_cells {S : ByteArray} {B : Nat} {v0 v1 v2 : Value} (k : STurned w w' p d (storeR h S).2.2 (c + 1) a b kb fd kf) (hB : B ∉ foot p a b kb fd) (s0 : w.cell? ⟨B, 0, none⟩ = some v0) (s1 : w.cell? ⟨B, 1, none⟩ = some v1) (s2 : w.cell? ⟨B, 2, none⟩ = some v2) :
    w'.cell? ⟨p, 0, none⟩ = some (.pointer (some ⟨a, 0, none⟩)) ∧ w'.cell? ⟨p, 1, none⟩ = some (.pointer (some ⟨d, 0, none⟩)) ∧ w'.cell? ⟨p, 2, none⟩ = some (.int .i64 h.gen) ∧ w'.cell? ⟨B, 0, none⟩ = some v0 ∧ w'.cell? ⟨B, 1, none⟩ = some v1 ∧ w'.cell? ⟨B, 2, none⟩ = some v2 := by
  obtain ⟨fd', k1, k2, _⟩ := k
  have hg := k1.cell2
  rw [storeR_gen] at hg
  exact ⟨k1.cell0, k1.cell1, hg, cell_moves k2 s0 hB, cell_moves k2 s1 hB, cell_moves k2 s2 hB⟩
set_option maxHeartbeats 4000000 in
set_option maxRecDepth 20000 in
theorem hput_any (n : L6.Nd) (ai ak : Option Addr) (ci ck : Nat) (w : World) (H : IsHeap w p d h c F) (hn : L6.Has w n ai ak) (hil : n.its.length ≤ 1100) (hkl : n.kds.length ≤ 1100) (hbare : h.bare) (hc : c ≤ 999990) :
    Calls Tryz.prog 35 #[.pointer (some ⟨p, 0, none⟩), .agg #[.bool n.leaf, .slice ai n.its.length ci, .slice ak n.kds.length ck]] w fun e w' => e = .returned (.tuple #[.int .i64 (putR h n).1, .int .i64 (putR h n).2.1]) ∧ HTurned w w' p d (putR h n).2.2 (c + 2) F := by
  have hb0 := below_alloc w (.cells #[.bool n.leaf, .slice ai n.its.length ci, .slice ak n.kds.length ck] 43)
  have q0 : (w.alloc (.cells #[.bool n.leaf, .slice ai n.its.length ci, .slice ak n.kds.length ck] 43)).cell? ⟨w.heap.size, 0, none⟩ = some (.bool n.leaf) := by simp
  have q1 : (w.alloc (.cells #[.bool n.leaf, .slice ai n.its.length ci, .slice ak n.kds.length ck] 43)).cell? ⟨w.heap.size, 1, none⟩ = some (.slice ai n.its.length ci) := by simp
  have q2 : (w.alloc (.cells #[.bool n.leaf, .slice ai n.its.length ci, .slice ak n.kds.length ck] 43)).cell? ⟨w.heap.size, 2, none⟩ = some (.slice ak n.kds.length ck) := by simp
  have HN := hide (hn.grow hb0)
  have HH := hide (H.grow hb0)
  have HH0 := hide H
  have HB := hide hb0
  have HIL := hide hil
  have HKL := hide hkl
  have HBR := hide hbare
  have HC := hide hc
  clear hn H hb0 hil hkl hbare hc
  obtain ⟨B, hB⟩ : ∃ x, x = w.heap.size := ⟨_, rfl⟩
  by_cases hE : (L6.encodeN n).2 = 0
  · go_enter Tryz.func35, Tryz.ntmps35
    go_wp2_with fail
    have HE := hide hE
    rw [← hB] at q0 q1 q2 ⊢
    have HBE := hide hB
    clear hB
    generalize w.alloc (.cells #[.bool n.leaf, .slice ai n.its.length ci, .slice ak n.kds.length ck] 43) = w1 at *
    refine (L6.encode_any n ai ak ci ck w1 (unhide HN) (unhide HIL) (unhide HKL)).mono ?_
    rintro x w2 ⟨rfl, hb2⟩
    rw [hE]
    clear hE
    obtain ⟨Y, hY⟩ : ∃ x, x = (L6.encodeN n).1 := ⟨_, rfl⟩
    rw [← hY]
    have HY := hide hY
    clear hY
    have q0' := (hb2.cell (World.block_lt_of_cell? _ _ q0)).trans q0
    have q1' := (hb2.cell (World.block_lt_of_cell? _ _ q1)).trans q1
    have q2' := (hb2.cell (World.block_lt_of_cell? _ _ q2)).trans q2
    have HN2 := hide ((unhide HN).grow hb2)
    have HH2 := hide ((unhide HH).grow hb2)
    have HB2 := hide (below_then (unhide HB) hb2)
    clear hb2 q0 q1 q2 HN HH HB
    go_wp2_with fail
    refine (placesOf_any n.kds ak ck w2 (unhide HN2).2 (unhide HKL)).mono ?_
    rintro x w3 ⟨v, rfl, hv3, hg3, hb3⟩
    have q0 := (hb3.cell (World.block_lt_of_cell? _ _ q0')).trans q0'
    have q1 := (hb3.cell (World.block_lt_of_cell? _ _ q1')).trans q1'
    have q2 := (hb3.cell (World.block_lt_of_cell? _ _ q2')).trans q2'
    have HV := hide hv3
    have HH3 := hide ((unhide HH2).grow hb3)
    have HB3 := hide (below_then (unhide HB2) hb3)
    clear hb3 hv3 hg3 q0' q1' q2' HN2 HH2 HB2
    have hks : n.kds.map (fun x => x.2) = places n := rfl
    rw [hks] at HV
    have hlen : (places n).length ≤ 1100 := by unfold places; rw [List.length_map]; exact unhide HKL
    have HLEN := hide hlen
    clear hks hlen
    go_wp2_with fail
    refine (mayHold_any (places n) v w3 (unhide HH3) (unhide HV) (enc_places (unhide HE)) (unhide HLEN)).mono ?_
    rintro x w4 ⟨rfl, hb4⟩
    have q0' := (hb4.cell (World.block_lt_of_cell? _ _ q0)).trans q0
    have q1' := (hb4.cell (World.block_lt_of_cell? _ _ q1)).trans q1
    have q2' := (hb4.cell (World.block_lt_of_cell? _ _ q2)).trans q2
    have HV4 := hide ((unhide HV).grow hb4)
    have HH4 := hide ((unhide HH3).grow hb4)
    have HB4 := hide (below_then (unhide HB3) hb4)
    clear hb4 q0 q1 q2 HV HH3 HB3
    by_cases hM : mayE h.al (places n) = 0
    · rw [hM]
      have HM := hide hM
      clear hM
      go_wp2_with fail
      obtain ⟨a, b, kb, fd, kf, H4, rfl⟩ := unhide HH4
      clear HH4
      have hBF : B ∉ foot p a b kb fd := fun hx => by
        have := (unhide HH0).lt B hx
        have := unhide HBE
        omega
      have HBF := hide hBF
      have p0 := H4.cell0
      have p1 := H4.cell1
      have p2 := H4.cell2
      have HH4 : Hid (HeapAt w4.drew p d h c a b kb fd kf) := H4.grow (below_drew w4)
      have hkn : (if n.leaf then (1 : Int) else 2) = ((kindN n : Nat) : Int) := by unfold kindN; split <;> rfl
      have HKN := hide hkn
      have HV4' : Hid (Ints w4.drew v (places n)) := (unhide HV4).grow (below_drew w4)
      have HB4' : Hid (Below w.heap.size w w4.drew) := below_then (unhide HB4) (below_drew w4)
      clear hBF H4 hkn HV4 HB4
      have HV4 := HV4'
      have HB4 := HB4'
      clear HV4' HB4'
      have hSX : (L4.wrapR ((kindN n : Nat) : Int) h.gen Y).1 = sectorN h.gen n := by unfold sectorN; rw [unhide HY]
      have HSX := hide hSX
      clear hSX
      by_cases hW : (storeR h (sectorN h.gen n)).2.1 = 0
      · obtain ⟨i, hi, hst, _⟩ := storeR_ok hW
        have hD : putR h n = ((2 : Int) + (i : Int), 0, { dk := L3.writeM h.dk ((2 : Int) + (i : Int)) (sectorN h.gen n), al := holdAll (L5.takeM h.al h.gen) (places n), gen := h.gen, kids := setK h.kids (2 + i) (places n) }) := by
          unfold putR
          rw [if_neg (fun hn => hn (unhide HE)), if_neg (fun hn => hn (unhide HM)), if_neg (fun hn => hn hW), hst]
          have e : ((2 : Int) + (i : Int)).toNat = 2 + i := by omega
          simp only [e]
        have HD := hide hD
        have HST := hide hst
        obtain ⟨hin, hsn, _⟩ := take_at hi h.gen
        have hfew := (unhide HH4).al.ok.few
        have hi4 : 2 + i < 4096 := by unfold L5.In at hin; omega
        have hk0 : h.kids (2 + i) = [] := unhide HBR (2 + i) (by
          show L5.cntS (L5.sec 2 h.al ((2 + i : Nat) : Int)) = 0
          have e : ((2 + i : Nat) : Int) = (2 : Int) + (i : Int) := by omega
          rw [e, hsn]
          rfl)
        have HI4 := hide hi4
        have HK0 := hide hk0
        clear hW hD hst hin hsn hfew hi hi4 hk0
        obtain ⟨N, hN⟩ : ∃ x : Int, x = (2 : Int) + (i : Int) := ⟨_, rfl⟩
        rw [← hN] at HD HST
        have HNE := hide hN
        clear hN
        go_region_held3 (fun w' => w'.cell? ⟨p, 0, none⟩ = some (.pointer (some ⟨a, 0, none⟩)) ∧ w'.cell? ⟨p, 1, none⟩ = some (.pointer (some ⟨d, 0, none⟩)) ∧ w'.cell? ⟨p, 2, none⟩ = some (.int .i64 h.gen) ∧ w'.cell? ⟨B, 0, none⟩ = some (.bool n.leaf) ∧ w'.cell? ⟨B, 1, none⟩ = some (.slice ai n.its.length ci) ∧ w'.cell? ⟨B, 2, none⟩ = some (.slice ak n.kds.length ck))
          (first | assumption | exact ⟨p0, p1, p2, q0', q1', q2'⟩ | exact ⟨r0, r1, r2, s0, s1, s2⟩ | exact unhide HS6)
          (first
            | (go_at_call 89; go_split_ands; refine (kindOf_any n.leaf _ _ _).mono ?_; rintro e w5 ⟨rfl, hb5⟩; rw [unhide HKN]; have H5 := (unhide HH4).grow hb5; have r0 := H5.cell0; have r1 := H5.cell1; have r2 := H5.cell2; have s0 := (hb5.cell (World.block_lt_of_cell? _ _ (show w4.drew.cell? _ = _ from q0'))).trans q0'; have s1 := (hb5.cell (World.block_lt_of_cell? _ _ (show w4.drew.cell? _ = _ from q1'))).trans q1'; have s2 := (hb5.cell (World.block_lt_of_cell? _ _ (show w4.drew.cell? _ = _ from q2'))).trans q2'; have HH5 := hide H5; have HB5 := hide (below_then (unhide HB4) hb5); have HV5 := hide ((unhide HV4).grow hb5); clear hb5 H5)
            | (go_at_call 88; go_split_ands; refine (store_any (kindN n) Y _ (unhide HH5) (kindN_le n) (by rw [unhide HY]; exact enc_size (unhide HE)) (by have := unhide HC; omega)).mono ?_; rintro e w6 ⟨rfl, ht6⟩; have HS6 := hide (store_cells ht6 (unhide HBF) s0 s1 s2); have HT6 := hide ht6; rw [unhide HSX, unhide HST]; dsimp only; clear ht6))
        clear r0 r1 r2 s0 s1 s2 p0 p1 p2 q0' q1' q2' HS6
        have HT : Hid (HTurned w w6 p d { dk := L3.writeM h.dk N (sectorN h.gen n), al := L5.takeM h.al h.gen, gen := h.gen, kids := h.kids } (c + 1) (foot p a b kb fd)) := by
          have ht := (unhide HT6).turned
          rw [unhide HSX, unhide HST] at ht
          exact HTurned.then (L5.Moves.of_below _ (unhide HB5)) (fun x hx => .inl hx) ht
        have HV6 : Hid (Ints w6 v (places n)) := by
          obtain ⟨fd', _, k2, _⟩ := unhide HT6
          exact IsHeap.ints ⟨a, b, kb, fd, kf, unhide HH5, rfl⟩ (unhide HV5) k2
        clear HT6 HH4 HH5 HV4 HV5 HB4 HB5
        obtain ⟨a0, cap0, rfl⟩ := (unhide HV6).form
        go_wp2_with fail
        go_loopw [53] (fun t wr => ∃ k : Nat, k ≤ (places n).length ∧ t = .int .i64 (k : Int) ∧ HTurned w wr p d { dk := L3.writeM h.dk N (sectorN h.gen n), al := holdAll (L5.takeM h.al h.gen) ((places n).take k), gen := h.gen, kids := h.kids } (c + 1) (foot p a b kb fd) ∧ Ints wr (.slice a0 (places n).length cap0) (places n)) (fun t _ => (places n).length - (intOf t).toNat)
        case atStart => exact ⟨0, Nat.zero_le _, rfl, unhide HT, unhide HV6⟩
        case round =>
          clear HT HV6
          obtain ⟨k, hk, rfl, ht, hv⟩ := hrel
          have hL := unhide HLEN
          by_cases hlt : k < (places n).length
          · obtain ⟨g, rfl, hcell⟩ := hv.at k hlt
            obtain ⟨F1, ⟨a1, b1, kb1, fd1, kf1, H1, rfl⟩, hm1, hf1⟩ := ht
            have hx := enc_places (unhide HE) _ (List.getElem_mem hlt)
            have hI : L5.I64 (places n)[k] := by unfold L5.I64; omega
            have c0 := H1.cell0
            have HH1 := hide H1
            have HI := hide hI
            have HX1 := hide (And.intro hm1 hf1)
            have HV1 := hide hv
            obtain ⟨X, hX⟩ : ∃ y, y = (places n)[k] := ⟨_, rfl⟩
            rw [← hX] at hcell HI
            have HXE := hide hX
            clear H1 hI hm1 hf1 hv hx hX
            go_wp2_with (go_at_call 90; refine (L5.hold_any X _ (unhide HH1).al (unhide HI)).mono ?_; rintro e w7 ⟨rfl, ha, hm⟩; have HX7 := hide (And.intro ha hm); clear ha hm)
            go_roundw
            case rel =>
              obtain ⟨ha, hm⟩ := unhide HX7
              obtain ⟨hm1, hf1⟩ := unhide HX1
              have ht7 := alloc_turned (unhide HH1) hm ha (length_hold _ _)
              have e1 : holdAll (L5.takeM h.al h.gen) ((places n).take (k + 1)) = L5.holdM 2 (holdAll (L5.takeM h.al h.gen) ((places n).take k)) X := by
                rw [List.take_add_one, List.getElem?_eq_getElem hlt, ← unhide HXE]
                unfold holdAll
                rw [List.foldl_append]
                rfl
              refine ⟨k + 1, by omega, by go_num, ?_, ?_⟩
              · rw [e1]
                exact HTurned.then hm1 hf1 ht7
              · obtain ⟨_, _, k2, _⟩ := ht7
                exact IsHeap.ints ⟨a1, b1, kb1, fd1, kf1, unhide HH1, rfl⟩ (unhide HV1) k2
            case measure => simp [intOf]; omega
          · obtain rfl : k = (places n).length := by omega
            rw [List.take_length] at ht
            obtain ⟨F1, H1, hm1, hf1⟩ := ht
            have HH1 := hide H1
            have HX1 := hide (And.intro hm1 hf1)
            have HV1 := hide hv
            have hNn : N = ((2 + i : Nat) : Int) := by rw [unhide HNE]; omega
            have HNn := hide hNn
            clear H1 hm1 hf1 hv hNn
            go_wp2_with (go_at_call 91; rw [unhide HNn]; refine (know_any (2 + i) (unhide HI4) _ (places n) _ (unhide HH1) (unhide HV1) (unhide HK0) (by have := unhide HC; omega)).mono ?_; rintro e w8 ⟨rfl, ht8⟩; have HX8 := hide ht8; clear ht8)
            go_ret2
            rw [unhide HD]
            obtain ⟨hm1, hf1⟩ := unhide HX1
            refine ⟨?_, HTurned.then hm1 hf1 (unhide HX8)⟩
            rw [unhide HNE]
            rfl
      · have hD : putR h n = (0, (storeR h (sectorN h.gen n)).2.1, (storeR h (sectorN h.gen n)).2.2) := by unfold putR; rw [if_neg (fun hn => hn (unhide HE)), if_neg (fun hn => hn (unhide HM)), if_pos hW]
        have hW1 : ((storeR h (sectorN h.gen n)).2.1 == 0) = false := beq_eq_false_iff_ne.2 hW
        have hW2 : ((storeR h (sectorN h.gen n)).2.1 != 0) = true := bne_iff_ne.2 hW
        have HD := hide hD
        clear hW hD
        go_region_held3 (fun w' => w'.cell? ⟨p, 0, none⟩ = some (.pointer (some ⟨a, 0, none⟩)) ∧ w'.cell? ⟨p, 1, none⟩ = some (.pointer (some ⟨d, 0, none⟩)) ∧ w'.cell? ⟨p, 2, none⟩ = some (.int .i64 h.gen) ∧ w'.cell? ⟨B, 0, none⟩ = some (.bool n.leaf) ∧ w'.cell? ⟨B, 1, none⟩ = some (.slice ai n.its.length ci) ∧ w'.cell? ⟨B, 2, none⟩ = some (.slice ak n.kds.length ck))
          (first | assumption | exact ⟨p0, p1, p2, q0', q1', q2'⟩ | exact ⟨r0, r1, r2, s0, s1, s2⟩ | exact unhide HS6)
          (first
            | (go_at_call 89; go_split_ands; refine (kindOf_any n.leaf _ _ _).mono ?_; rintro e w5 ⟨rfl, hb5⟩; rw [unhide HKN]; have H5 := (unhide HH4).grow hb5; have r0 := H5.cell0; have r1 := H5.cell1; have r2 := H5.cell2; have s0 := (hb5.cell (World.block_lt_of_cell? _ _ (show w4.drew.cell? _ = _ from q0'))).trans q0'; have s1 := (hb5.cell (World.block_lt_of_cell? _ _ (show w4.drew.cell? _ = _ from q1'))).trans q1'; have s2 := (hb5.cell (World.block_lt_of_cell? _ _ (show w4.drew.cell? _ = _ from q2'))).trans q2'; have HH5 := hide H5; have HB5 := hide (below_then (unhide HB4) hb5); have HV5 := hide ((unhide HV4).grow hb5); clear hb5 H5)
            | (go_at_call 88; go_split_ands; refine (store_any (kindN n) Y _ (unhide HH5) (kindN_le n) (by rw [unhide HY]; exact enc_size (unhide HE)) (by have := unhide HC; omega)).mono ?_; rintro e w6 ⟨rfl, ht6⟩; have HS6 := hide (store_cells ht6 (unhide HBF) s0 s1 s2); have HT6 := hide ht6; rw [unhide HSX]; clear ht6))
        clear r0 r1 r2 s0 s1 s2 p0 p1 p2 q0' q1' q2'
        go_wp2
        go_ret2
        rw [unhide HD]
        refine ⟨rfl, ?_⟩
        have ht := (unhide HT6).turned
        rw [unhide HSX] at ht
        obtain ⟨F', k1, k2, k3⟩ := HTurned.then (L5.Moves.of_below _ (unhide HB5)) (fun x hx => .inl hx) ht
        exact ⟨F', k1.mono (by omega), k2, k3⟩
    · have hM1 : (mayE h.al (places n) == 0) = false := beq_eq_false_iff_ne.2 hM
      have hM2 : (mayE h.al (places n) != 0) = true := bne_iff_ne.2 hM
      have hD : putR h n = (0, mayE h.al (places n), h) := by unfold putR; rw [if_neg (fun hn => hn (unhide HE)), if_pos hM]
      obtain ⟨E, hEE⟩ : ∃ x, x = mayE h.al (places n) := ⟨_, rfl⟩
      rw [← hEE] at hM1 hM2 hD ⊢
      have HD := hide hD
      clear hM hEE hD
      go_wp2
      go_ret2
      rw [unhide HD]
      exact ⟨rfl, ((unhide HH0).mono (by omega)).stays (unhide HB4)⟩
  · have hD : putR h n = (0, ((L6.encodeN n).2 : Int), h) := by unfold putR; rw [if_pos hE]
    have hE1 : (((L6.encodeN n).2 : Int) == 0) = false := beq_eq_false_iff_ne.2 (by omega)
    have hE2 : (((L6.encodeN n).2 : Int) != 0) = true := bne_iff_ne.2 (by omega)
    obtain ⟨E, hEE⟩ : ∃ x : Int, x = ((L6.encodeN n).2 : Int) := ⟨_, rfl⟩
    rw [← hEE] at hE1 hE2 hD
    have HD := hide hD
    have HEE := hide hEE
    clear hE hEE hD hB
    go_enter Tryz.func35, Tryz.ntmps35
    go_wp2_with (go_at_call 85; refine (L6.encode_any n ai ak ci ck _ (unhide HN) (unhide HIL) (unhide HKL)).mono ?_; rintro x w2 ⟨rfl, hb2⟩; rw [← unhide HEE]; have HB2 := hide (below_then (unhide HB) hb2); clear hb2)
    go_ret2
    rw [unhide HD]
    exact ⟨rfl, ((unhide HH0).mono (by omega)).stays (unhide HB2)⟩
end Go.Proofs.YtlmgmdnmghgkbaaGreatDoor

/- Drop: a closure that calls itself. -/
namespace Go.Proofs.YtlmgmdnmghgkbaaGreatDoor
open Go.ChangeShapes Go.WideShapes Go.ChangeAt Go.RowKit
variable {w w' : World} {p d : Nat} {h : Hp} {c : Nat} {F : List Nat} {a b kb : Nat} {fd : List Nat} {kf : Nat → Option Value}

theorem Ints.len {v : Value} {l : List Int} (h : Ints w v l) : l.length ≤ maxLen := by
  rcases h.2 with ⟨_, h0⟩ | ⟨g, cap, cur, rfl, _, hg, hc, hm, _⟩
  · rw [h0]; exact Nat.zero_le _
  · omega
/-- kids are places -/
def Hp.near (h : Hp) : Prop := ∀ q, ∀ x ∈ h.kids q, 2 ≤ x ∧ x < 4096
theorem near_setK (hn : h.near) (q : Nat) (l : List L5.St) : Hp.near { h with al := l, kids := setK h.kids q [] } := by
  intro i x hx
  simp only [setK] at hx
  split at hx
  · simp at hx
  · exact hn i x hx
theorem near_dropH (f : Nat) : ∀ (h : Hp) (q : Int), h.near → (dropH f h q).near := by
  induction f with
  | zero => intro h q hn; exact hn
  | succ f ih =>
    intro h q hn
    have hf : ∀ (ks : List Int) (h : Hp), h.near → (ks.foldl (dropH f) h).near := by
      intro ks
      induction ks with
      | nil => intro h hn; exact hn
      | cons k r ihr => intro h hn; exact ihr _ (ih h k hn)
    unfold dropH
    split
    · exact hn
    · split
      · exact hn
      · exact hf _ _ (near_setK hn _ _)
theorem near_fold (f : Nat) : ∀ (ks : List Int) (h : Hp), h.near → (ks.foldl (dropH f) h).near
  | [], _, hn => hn
  | k :: r, h, hn => near_fold f r _ (near_dropH f h k hn)
theorem held_fold (f : Nat) : ∀ (ks : List Int) (h : Hp), heldL (ks.foldl (dropH f) h).al ≤ heldL h.al
  | [], _ => Nat.le_refl _
  | k :: r, h => Nat.le_trans (held_fold f r _) (held_dropH f h k)
theorem dropE_zero (l : List L5.St) (q : Int) (hz : cntL l q ≠ 0) : L5.dropE 2 l q = 0 := by
  unfold L5.dropE
  exact if_neg hz

/-- the closure that drops, where its two variables stand -/
def clos (c1 c2 : Nat) : Value := .func (.func 80) #[] #[.pointer (some ⟨c1, 0, none⟩), .pointer (some ⟨c2, 0, none⟩)]

set_option maxHeartbeats 4000000 in
set_option maxRecDepth 20000 in
theorem dclos (f : Nat) : ∀ (h : Hp) (q : Int) (c1 c2 : Nat) (F : List Nat) (w : World), IsHeap w p d h c F → heldL h.al < f → L5.I64 q → h.near → w.cell? ⟨c1, 0, none⟩ = some (.pointer (some ⟨p, 0, none⟩)) → w.cell? ⟨c2, 0, none⟩ = some (clos c1 c2) → c1 ∉ F → c2 ∉ F →
    Calls Tryz.prog 80 #[.int .i64 q, .pointer (some ⟨c1, 0, none⟩), .pointer (some ⟨c2, 0, none⟩)] w fun e w' => e = .returned (.int .i64 (L5.dropE 2 h.al q)) ∧ HTurned w w' p d (dropH f h q) c F := by
  induction f with
  | zero => intro h q c1 c2 F w H hf; omega
  | succ f ih =>
  intro h q c1 c2 F w H hf hq hnear k1 k2 hc1 hc2
  have HIH := hide ih
  clear ih
  obtain ⟨a, b, kb, fd, kf, H, rfl⟩ := H
  have p0 := H.cell0
  have p2 := H.cell2
  have HH0 := hide H
  have HH : Hid (HeapAt w.drew p d h c a b kb fd kf) := H.grow (below_drew w)
  have HG := hide (gen64 H)
  have HQ := hide hq
  have HN := hide hnear
  have HF := hide hf
  have HC1 := hide hc1
  have HC2 := hide hc2
  have HCB : Hid (c1 ∉ [b]) := by intro hx; simp at hx; exact hc1 (by simp [foot, hx])
  have HDB : Hid (c2 ∉ [b]) := by intro hx; simp at hx; exact hc2 (by simp [foot, hx])
  clear H hf hq hnear hc1 hc2
  by_cases hz : cntL h.al q = 0
  · have hE : L5.dropE 2 h.al q = 51 := by unfold L5.dropE; exact if_pos hz
    have HE := hide hE
    have HZ := hide hz
    have hD : dropH (f + 1) h q = h := by unfold dropH; exact if_pos hz
    have HD := hide hD
    clear hE hz hD
    go_enter Tryz.func80, Tryz.ntmps80
    go_wp2_with fail
    go_region_held3 (fun w' => w'.cell? ⟨c1, 0, none⟩ = some (.pointer (some ⟨p, 0, none⟩)) ∧ w'.cell? ⟨p, 0, none⟩ = some (.pointer (some ⟨a, 0, none⟩)) ∧ w'.cell? ⟨p, 2, none⟩ = some (.int .i64 h.gen))
    (first | assumption | exact ⟨k1, p0, p2⟩ | exact ⟨m1, r0, r2⟩)
    (first
      | (go_at_call 81; go_split_ands; refine (L5.drop_any q h.gen _ (unhide HH).al (unhide HQ) (unhide HG)).mono ?_; rintro e w2 ⟨rfl, ha, hm⟩; rw [unhide HE]; have H2 := (unhide HH).alloc hm ha (length_drop _ _ _); have r0 := H2.cell0; have r2 : w2.cell? ⟨p, 2, none⟩ = some (.int .i64 h.gen) := H2.cell2; have r3 := H2.cell3; have m1 := cell_moves hm (show w.drew.cell? _ = _ from k1) (unhide HCB); have m2 := cell_moves hm (show w.drew.cell? _ = _ from k2) (unhide HDB); have HH2 := hide H2; have HM2 := hide hm; clear ha hm H2))
    clear r0 r2 r3 m1 m2
    go_wp2
    go_ret
    rw [unhide HD, unhide HE]
    refine ⟨rfl, _, ⟨a, b, kb, fd, kf, ?_, rfl⟩, ((L5.Moves.of_below _ (below_drew w)).trans (unhide HM2) (fun x hx => .inl (by simp at hx; simp [foot, hx]))), fun x hx => .inl hx⟩
    have h2 := unhide HH2
    rw [drop_none _ _ _ (unhide HZ)] at h2
    exact h2
  · have hE := dropE_zero h.al q hz
    have HE := hide hE
    have HZ := hide hz
    clear hE
    by_cases hz2 : 0 < cntL (L5.dropM 2 h.al q h.gen) q
    · have hD : dropH (f + 1) h q = { h with al := L5.dropM 2 h.al q h.gen } := by unfold dropH; rw [if_neg (show ¬ h.cnt q = 0 from hz), if_pos hz2]
      have HD := hide hD
      obtain ⟨C, hC⟩ : ∃ x : Int, x = ((L5.cntS (L5.sec 2 (L5.dropM 2 h.al q h.gen) q) : Nat) : Int) := ⟨_, rfl⟩
      have hC0 : 0 < C := by rw [hC]; have : 0 < L5.cntS (L5.sec 2 (L5.dropM 2 h.al q h.gen) q) := hz2; omega
      have HC := hide hC
      clear hz hz2 hD hC
      go_enter Tryz.func80, Tryz.ntmps80
      go_wp2_with fail
      go_region_held3 (fun w' => w'.cell? ⟨c1, 0, none⟩ = some (.pointer (some ⟨p, 0, none⟩)) ∧ w'.cell? ⟨p, 0, none⟩ = some (.pointer (some ⟨a, 0, none⟩)) ∧ w'.cell? ⟨p, 2, none⟩ = some (.int .i64 h.gen))
    (first | assumption | exact ⟨k1, p0, p2⟩ | exact ⟨m1, r0, r2⟩)
    (first
      | (go_at_call 81; go_split_ands; refine (L5.drop_any q h.gen _ (unhide HH).al (unhide HQ) (unhide HG)).mono ?_; rintro e w2 ⟨rfl, ha, hm⟩; rw [unhide HE]; have H2 := (unhide HH).alloc hm ha (length_drop _ _ _); have r0 := H2.cell0; have r2 : w2.cell? ⟨p, 2, none⟩ = some (.int .i64 h.gen) := H2.cell2; have r3 := H2.cell3; have m1 := cell_moves hm (show w.drew.cell? _ = _ from k1) (unhide HCB); have m2 := cell_moves hm (show w.drew.cell? _ = _ from k2) (unhide HDB); have HH2 := hide H2; have HM2 := hide hm; clear ha hm H2))
      go_wp2_with (go_at_call 82; refine (L5.count_any q (unhide HQ) _ (unhide HH2).al).mono ?_; rintro e w3 ⟨rfl, hw⟩; rw [hw]; clear hw w3; rw [← unhide HC])
      go_ret
      rw [unhide HD, unhide HE]
      exact ⟨rfl, _, ⟨a, b, kb, fd, kf, unhide HH2, rfl⟩, ((L5.Moves.of_below _ (below_drew w)).trans (unhide HM2) (fun x hx => .inl (by simp at hx; simp [foot, hx]))), fun x hx => .inl hx⟩
    · have hC0 : ((L5.cntS (L5.sec 2 (L5.dropM 2 h.al q h.gen) q) : Nat) : Int) = 0 := by have : ¬ 0 < L5.cntS (L5.sec 2 (L5.dropM 2 h.al q h.gen) q) := hz2; omega
      have hD : dropH (f + 1) h q = (h.kids q.toNat).foldl (dropH f) { h with al := L5.dropM 2 h.al q h.gen, kids := setK h.kids q.toNat [] } := by rw [dropH, if_neg (show ¬ h.cnt q = 0 from hz), if_neg hz2]
      have HD := hide hD
      have HC := hide hC0
      have HZ2 : Hid (cntL (L5.dropM 2 h.al q h.gen) q = 0) := by have : ¬ 0 < cntL (L5.dropM 2 h.al q h.gen) q := hz2; show _ = _; omega
      have hin := cnt_in (l := h.al) (p := q) (by omega)
      have hfew := (unhide HH).al.ok.few
      have hq0 : 2 ≤ q ∧ q < 4096 := by unfold L5.In at hin; omega
      have HQ0 := hide hq0
      clear hz hz2 hD hC0 hin hfew hq0
      go_enter Tryz.func80, Tryz.ntmps80
      go_wp2_with fail
      go_region_held3 (fun w' => w'.cell? ⟨c1, 0, none⟩ = some (.pointer (some ⟨p, 0, none⟩)) ∧ w'.cell? ⟨p, 0, none⟩ = some (.pointer (some ⟨a, 0, none⟩)) ∧ w'.cell? ⟨p, 2, none⟩ = some (.int .i64 h.gen))
    (first | assumption | exact ⟨k1, p0, p2⟩ | exact ⟨m1, r0, r2⟩)
    (first
      | (go_at_call 81; go_split_ands; refine (L5.drop_any q h.gen _ (unhide HH).al (unhide HQ) (unhide HG)).mono ?_; rintro e w2 ⟨rfl, ha, hm⟩; rw [unhide HE]; have H2 := (unhide HH).alloc hm ha (length_drop _ _ _); have r0 := H2.cell0; have r2 : w2.cell? ⟨p, 2, none⟩ = some (.int .i64 h.gen) := H2.cell2; have r3 := H2.cell3; have m1 := cell_moves hm (show w.drew.cell? _ = _ from k1) (unhide HCB); have m2 := cell_moves hm (show w.drew.cell? _ = _ from k2) (unhide HDB); have HH2 := hide H2; have HM2 := hide hm; clear ha hm H2))
      have hlk := (unhide HH2).km.look slR_apart Tryz.underlying112 (zero39 w2) rfl (n := q) (by have := unhide HQ0; omega) (by have := unhide HQ0; omega)
      have hkid := ((unhide HH2).kid q.toNat (by have := unhide HQ0; omega)).get
      obtain ⟨v, hv⟩ : ∃ x, x = (kf q.toNat).getD (.slice none 0 0) := ⟨_, rfl⟩
      rw [← hv] at hlk hkid
      obtain ⟨a0, cap0, rfl⟩ := hkid.form
      have HKID := hide hkid
      clear hv hkid
      go_wp2_with (first
        | (go_at_call 82; refine (L5.count_any q (unhide HQ) _ (unhide HH2).al).mono ?_; rintro e w3 ⟨rfl, hw⟩; rw [hw]; clear hw w3; rw [unhide HC])
        | (at_delete; refine wp_kdel (R := slR) Tryz.underlying112 rfl _ _ rfl rfl rfl (unhide HH2).km (by have := unhide HQ0; omega) (by have := unhide HQ0; omega) ?_; intro w4 hs4 hg4; have HX4 := hide (And.intro hs4 hg4); clear hs4 hg4))
      obtain ⟨hs4, hg4⟩ := unhide HX4
      have hmv : Moves [kb] w2 w4 := L5.Moves.of_grown hg4 (fun k hk => by cases hk; simp)
      have H4 := (unhide HH2).kmap (kids' := setK h.kids q.toNat []) hg4 hs4 (Nat.le_refl c) (fun i hi => by
        unfold setK
        by_cases e : i = q.toNat
        · rw [if_pos e, if_pos e]
          rfl
        · rw [if_neg e, if_neg e]
          exact (unhide HH2).kids hmv (fun x hx => .inl (by simp at hx; simp [foot, hx])) i hi)
      have hm04 : Moves (foot p a b kb fd) w w4 := ((L5.Moves.of_below _ (below_drew w)).trans (unhide HM2) (fun x hx => .inl (by simp at hx; simp [foot, hx]))).trans hmv (fun x hx => .inl (by simp at hx; simp [foot, hx]))
      have HT4 : Hid (HTurned w w4 p d { h with al := L5.dropM 2 h.al q h.gen, kids := setK h.kids q.toNat [] } c (foot p a b kb fd)) := ⟨_, ⟨a, b, kb, fd, _, H4, rfl⟩, hm04, fun x hx => .inl hx⟩
      have HI4 : Hid (Ints w4 (.slice a0 (h.kids q.toNat).length cap0) (h.kids q.toNat)) := (unhide HKID).same (fun g hg => hmv.block g ((unhide HKID).lt g hg) (by have := (unhide HH2).row (unhide HKID) hg; simp [foot] at this; simp; exact this.2.2.2.1))
      have hheld : heldL (L5.dropM 2 h.al q h.gen) < f := by
        have h1 := held_drop_last h.al q h.gen (by have := unhide HZ; omega) (unhide HZ2)
        have h2 := unhide HF
        omega
      have HHELD := hide hheld
      have HNE := hide (unhide HN q.toNat)
      have HN4 := hide (near_setK (unhide HN) q.toNat (L5.dropM 2 h.al q h.gen))
      clear hs4 hg4 hmv H4 hm04 hheld HX4 HH2 HM2 HKID HH HG HCB HDB HN p0 p2 r0 r2 r3 m1 m2 hlk
      have HK1 := hide k1
      have HK2 := hide k2
      clear k1 k2
      generalize h.kids q.toNat = ks at *
      have hlen : ks.length ≤ maxLen := (unhide HI4).len
      unfold maxLen at hlen
      go_wp2_with fail
      go_loopw [46] (fun t wr => ∃ k : Nat, k ≤ ks.length ∧ t = .int .i64 (k : Int) ∧ HTurned w wr p d ((ks.take k).foldl (dropH f) { h with al := L5.dropM 2 h.al q h.gen, kids := setK h.kids q.toNat [] }) c (foot p a b kb fd) ∧ Ints wr (.slice a0 ks.length cap0) ks) (fun t _ => ks.length - (intOf t).toNat)
      case atStart => exact ⟨0, Nat.zero_le _, rfl, unhide HT4, unhide HI4⟩
      case round =>
        clear HT4 HI4
        obtain ⟨k, hk, rfl, ht, hv⟩ := hrel
        by_cases hlt : k < ks.length
        · obtain ⟨g, rfl, hcell⟩ := hv.at k hlt
          obtain ⟨F1, H1, hm1, hf1⟩ := ht
          have hx := unhide HNE _ (List.getElem_mem hlt)
          have hI : L5.I64 ks[k] := by unfold L5.I64; omega
          have HI := hide hI
          have k1 := cell_moves hm1 (unhide HK1) (unhide HC1)
          have k2 := cell_moves hm1 (unhide HK2) (unhide HC2)
          unfold clos at k2
          have hn1 : c1 ∉ F1 := fun hx => by
            rcases hf1 _ hx with h1 | h1
            · exact unhide HC1 h1
            · have := World.block_lt_of_cell? _ _ (unhide HK1); simp at this; omega
          have hn2 : c2 ∉ F1 := fun hx => by
            rcases hf1 _ hx with h1 | h1
            · exact unhide HC2 h1
            · have := World.block_lt_of_cell? _ _ (unhide HK2); simp at this; omega
          have HH1 := hide H1
          have HX1 := hide (And.intro hm1 hf1)
          have HV1 := hide hv
          have HN1 := hide (And.intro hn1 hn2)
          obtain ⟨X, hX⟩ : ∃ y, y = ks[k] := ⟨_, rfl⟩
          rw [← hX] at hcell HI
          have HXE := hide hX
          clear H1 hI hm1 hf1 hv hx hX hn1 hn2
          go_wp2_with (go_at_call 80; refine (unhide HIH _ X c1 c2 F1 _ (unhide HH1) (Nat.lt_of_le_of_lt (held_fold f _ _) (unhide HHELD)) (unhide HI) (near_fold f _ _ (unhide HN4)) k1 k2 (unhide HN1).1 (unhide HN1).2).mono ?_; rintro e w7 ⟨rfl, ht7⟩; have HX7 := hide ht7; clear ht7)
          go_roundw
          case rel =>
            obtain ⟨hm1, hf1⟩ := unhide HX1
            have e1 : (ks.take (k + 1)).foldl (dropH f) { h with al := L5.dropM 2 h.al q h.gen, kids := setK h.kids q.toNat [] } = dropH f ((ks.take k).foldl (dropH f) { h with al := L5.dropM 2 h.al q h.gen, kids := setK h.kids q.toNat [] }) X := by
              rw [List.take_add_one, List.getElem?_eq_getElem hlt, ← unhide HXE, List.foldl_append]
              rfl
            refine ⟨k + 1, by omega, by go_num, ?_, ?_⟩
            · rw [e1]
              exact HTurned.then hm1 hf1 (unhide HX7)
            · obtain ⟨_, _, k2, _⟩ := unhide HX7
              exact (unhide HH1).ints (unhide HV1) k2
          case measure => simp [intOf]; omega
        · obtain rfl : k = ks.length := by omega
          rw [List.take_length] at ht
          have HT := hide ht
          clear ht hv
          go_wp2
          go_ret
          rw [unhide HD, unhide HE]
          exact ⟨rfl, unhide HT⟩
end Go.Proofs.YtlmgmdnmghgkbaaGreatDoor

/- Drop. -/
namespace Go.Proofs.YtlmgmdnmghgkbaaGreatDoor
open Go.ChangeShapes Go.WideShapes Go.ChangeAt Go.RowKit
variable {w w' : World} {p d : Nat} {h : Hp} {c : Nat} {F : List Nat}

theorem one_free {W : World} {g : Nat} {cs : Array Value} {t : TypeId} (hb : W.heap[g]? = some (.cells cs t (0, 0))) (i : Nat) : W.frozen? ⟨g, i, none⟩ = false := by simp [World.frozen?, hb]
theorem one_set {W : World} {g : Nat} {v0 : Value} {t : TypeId} (hb : W.heap[g]? = some (.cells #[v0] t (0, 0))) (u : Value) : (W.setCell ⟨g, 0, none⟩ u).cell? ⟨g, 0, none⟩ = some u := by simp [World.cell?, World.setCell, Array.getElem?_modify, hb]
set_option maxHeartbeats 2000000 in
set_option maxRecDepth 20000 in
theorem hdrop_any (q : Int) (hq : L5.I64 q) (w : World) (H : IsHeap w p d h c F) (hn : h.near) :
    Calls Tryz.prog 31 #[.pointer (some ⟨p, 0, none⟩), .int .i64 q] w fun e w' => e = .returned (.int .i64 (L5.dropE 2 h.al q)) ∧ HTurned w w' p d (dropR h q) c F := by
  have hb3 : Below w.heap.size w ((w.alloc (.cells #[.pointer (some ⟨p, 0, none⟩)] 32)).alloc (.cells #[clos w.heap.size (w.heap.size + 1)] 74)) := ((Below.refl _ _).alloc (Nat.le_refl _) _).alloc (by simp) _
  have k1 : ((w.alloc (.cells #[.pointer (some ⟨p, 0, none⟩)] 32)).alloc (.cells #[clos w.heap.size (w.heap.size + 1)] 74)).cell? ⟨w.heap.size, 0, none⟩ = some (.pointer (some ⟨p, 0, none⟩)) := by simp
  have k2 : ((w.alloc (.cells #[.pointer (some ⟨p, 0, none⟩)] 32)).alloc (.cells #[clos w.heap.size (w.heap.size + 1)] 74)).cell? ⟨w.heap.size + 1, 0, none⟩ = some (clos w.heap.size (w.heap.size + 1)) := by simp
  have hlt := H.lt
  have HK1 := hide k1
  have HK2 := hide k2
  have HB3 := hide hb3
  have HH := hide (H.grow hb3)
  have HL := hide hlt
  have HQ := hide hq
  have HN := hide hn
  have hst := fun (W : World) (a : Addr) (x) (y) (z) => run_store Tryz.prog W a (.func x y z) .plain rfl
  clear H hb3 k1 k2 hlt hq hn
  go_enter Tryz.func31, Tryz.ntmps31
  go_wp2_with (go_at_call 80; unfold clos at HH HK1 HK2; refine (dclos (h.al.length + 1) h q w.heap.size (w.heap.size + 1) F _ (unhide HH) (by have := heldL_le h.al; omega) (unhide HQ) (unhide HN) (unhide HK1) (unhide HK2) (fun hx => by have := unhide HL _ hx; omega) (fun hx => by have := unhide HL _ hx; omega)).mono ?_; rintro e w7 ⟨rfl, ht7⟩; have HX7 := hide ht7; clear ht7)
  go_ret
  refine ⟨rfl, ?_⟩
  exact HTurned.then (L5.Moves.of_below _ (unhide HB3)) (fun x hx => .inl hx) (unhide HX7)
end Go.Proofs.YtlmgmdnmghgkbaaGreatDoor

/- Same, of two nodes that have the same entries. -/
namespace Go.Proofs.YtlmgmdnmghgkbaaGreatDoor.L6
open Go.ChangeShapes Go.WideShapes Go.ChangeAt Go.RowKit


set_option maxRecDepth 10000 in
set_option maxHeartbeats 4000000 in
theorem same_any (n : Nd) (ai ak bi bk : Option Addr) (ci ck di dk : Nat) (w : World) (ha : Has w n ai ak) (hb : Has w n bi bk) (hil : n.its.length ≤ 1000000) (hkl : n.kds.length ≤ 1000000) :
    Calls Tryz.prog 54 #[.agg #[.bool n.leaf, .slice ai n.its.length ci, .slice ak n.kds.length ck], .agg #[.bool n.leaf, .slice bi n.its.length di, .slice bk n.kds.length dk]] w fun e w' => e = .returned (.bool true) ∧ Below w.heap.size w w' := by
  obtain ⟨L, its, kds⟩ := n
  simp only at hil hkl
  have hb0 := below_alloc w (.cells #[.bool L, .slice ai its.length ci, .slice ak kds.length ck] 43)
  have hb1 := below_alloc (w.alloc (.cells #[.bool L, .slice ai its.length ci, .slice ak kds.length ck] 43)) (.cells #[.bool L, .slice bi its.length di, .slice bk kds.length dk] 43)
  have HA := hide ((ha.grow hb0).grow hb1)
  have HC := hide ((hb.grow hb0).grow hb1)
  have HB := hide (below_then hb0 hb1)
  have n1 := (Nblk.new w L ai ak its.length ci kds.length ck).below hb1
  have n2 := Nblk.new (w.alloc (.cells #[.bool L, .slice ai its.length ci, .slice ak kds.length ck] 43)) L bi bk its.length di kds.length dk
  have hsz : (w.alloc (.cells #[.bool L, .slice ai its.length ci, .slice ak kds.length ck] 43)).heap.size = w.heap.size + 1 := by simp
  rw [hsz] at n2
  clear hb0 hb1 ha hb hsz
  go_enter Tryz.func54, Tryz.ntmps54
  go_wp2_with fail
  obtain ⟨p, hp⟩ : ∃ y, y = w.heap.size := ⟨_, rfl⟩
  rw [← hp] at n1 n2 ⊢
  clear hp
  generalize (w.alloc (.cells #[.bool L, .slice ai its.length ci, .slice ak kds.length ck] 43)).alloc (.cells #[.bool L, .slice bi its.length di, .slice bk kds.length dk] 43) = w2 at *
  go_loopw [5] (fun t wr => ∃ k : Nat, k ≤ its.length ∧ t = .int .i64 k ∧ Below w2.heap.size w2 wr) (fun t _ => its.length - (intOf t).toNat)
  case atStart => exact ⟨0, Nat.zero_le _, rfl, Below.refl _ _⟩
  case round =>
    obtain ⟨k, hk, rfl, hbel⟩ := hrel
    have HBel1 := hide hbel
    have e1 := (n1.below hbel).cell1
    have e2 := (n2.below hbel).cell1
    clear hbel
    by_cases hlt : k < its.length
    · obtain ⟨b, off, rfl, hr⟩ := (unhide HA).1.at hlt
      obtain ⟨b', off', rfl, hr'⟩ := (unhide HC).1.at hlt
      obtain ⟨⟨key, val⟩, hx⟩ := get_some hlt
      have c0 := cell_keep (hr k _ hx).1 (unhide HBel1)
      have c1 := cell_keep (hr k _ hx).2 (unhide HBel1)
      have d0 := cell_keep (hr' k _ hx).1 (unhide HBel1)
      have d1 := cell_keep (hr' k _ hx).2 (unhide HBel1)
      simp only at c0 c1 d0 d1
      skip
      have v4 : (k : Int) < (its.length : Int) := by omega
      have n1' := hide n1
      have n2' := hide n2
      clear hr hr' hx n1 n2 HA HC
      go_wp2_with fail
      go_quiet (fail)
      go_wp2
      go_roundw
      case rel => exact ⟨k + 1, by omega, by go_num, (unhide HBel1).trans (below_drewN (Below.refl _ _) _)⟩
      case measure => simp [intOf]; omega
    · obtain rfl : k = its.length := by omega
      go_wp2
      go_loopw [6] (fun t wr => ∃ k : Nat, k ≤ kds.length ∧ t = .int .i64 k ∧ Below w2.heap.size w2 wr) (fun t _ => kds.length - (intOf t).toNat)
      case atStart => exact ⟨0, Nat.zero_le _, rfl, unhide HBel1⟩
      case round =>
        obtain ⟨k, hk, rfl, hbel⟩ := hrel
        have HBel2 := hide hbel
        have e1 := (n1.below hbel).cell2
        have e2 := (n2.below hbel).cell2
        clear hbel
        by_cases hlt : k < kds.length
        · obtain ⟨b, off, rfl, hr⟩ := (unhide HA).2.at hlt
          obtain ⟨b', off', rfl, hr'⟩ := (unhide HC).2.at hlt
          obtain ⟨⟨key, val⟩, hx⟩ := get_some hlt
          have c0 := cell_keep (hr k _ hx).1 (unhide HBel2)
          have c1 := cell_keep (hr k _ hx).2 (unhide HBel2)
          have d0 := cell_keep (hr' k _ hx).1 (unhide HBel2)
          have d1 := cell_keep (hr' k _ hx).2 (unhide HBel2)
          simp only at c0 c1 d0 d1
          skip
          have v4 : (k : Int) < (kds.length : Int) := by omega
          have n1' := hide n1
          have n2' := hide n2
          clear hr hr' hx n1 n2 HA HC
          go_wp2_with fail
          go_quiet (fail)
          go_wp2
          go_roundw
          case rel => exact ⟨k + 1, by omega, by go_num, (unhide HBel2).trans (below_drewN (Below.refl _ _) _)⟩
          case measure => simp [intOf]; omega
        · obtain rfl : k = kds.length := by omega
          go_wp2
          go_ret
          exact ⟨rfl, below_then (unhide HB) (unhide HBel2)⟩
end Go.Proofs.YtlmgmdnmghgkbaaGreatDoor.L6

/- There and back (plain mathematics): what is read of a node's bytes; what is read has just these bytes. -/
namespace Go.Proofs.YtlmgmdnmghgkbaaGreatDoor.L6
open Go.ChangeShapes Go.WideShapes Go.ChangeAt Go.RowKit

theorem bn_extract (s : ByteArray) (a b : Nat) : bn (s.extract a b) = ((bn s).drop a).take (b - a) := by
  unfold bn
  rw [Lib.extract_data, List.map_take, List.map_drop]
theorem bn_back (L : ByteArray) (k : Nat) : bn (L.extract k L.size) = (bn L).drop k := by
  rw [bn_extract, List.take_of_length_le]
  rw [List.length_drop, bn_length]
  exact Nat.le_refl _

/- there -/
theorem read_byte {L : ByteArray} {b : Nat} {r : List Nat} (h : bn L = b :: r) : ∃ L1, byteR L 0 = (b, L1, 0) ∧ bn L1 = r := by
  have hz : 0 < L.size := by rw [← bn_length, h]; simp
  refine ⟨L.extract 1 L.size, ?_, by rw [bn_back, h]; rfl⟩
  unfold byteR
  rw [if_neg (by simp), if_neg (by omega), h]
  rfl
theorem read_short {L : ByteArray} {n : Nat} {r : List Nat} (h : bn L = Pk.shL n ++ r) (hn : n < 18446744073709551616) : ∃ L1, shortR L 0 = (n, L1, 0) ∧ bn L1 = r := by
  have e := Pk.scan_back n r hn
  refine ⟨L.extract (Pk.shL n).length L.size, ?_, ?_⟩
  · unfold shortR
    rw [if_neg (by simp), h, e]
  · rw [bn_back, h, List.drop_append_of_le_length (Nat.le_refl _), List.drop_of_length_le (Nat.le_refl _), List.nil_append]
theorem read_text {L t : ByteArray} {r : List Nat} {most : Int} (h : bn L = txL t ++ r) (ht : (t.size : Int) ≤ most) (hz4 : t.size ≤ 1000000) : ∃ L1, textR L 0 most = (t, L1, 0) ∧ bn L1 = r := by
  unfold txL at h
  have e : Pk.scan (bn L) = (t.size, (Pk.shL t.size).length, 0) := by
    rw [h, List.append_assoc]
    exact Pk.scan_back t.size _ (by omega)
  have hz : L.size = (Pk.shL t.size).length + t.size + r.length := by rw [← bn_length, h, List.length_append, List.length_append, bn_length]
  refine ⟨L.extract ((Pk.shL t.size).length + t.size) L.size, ?_, ?_⟩
  · unfold textR
    rw [if_neg (by simp), textOf_ok e (by omega) (by omega)]
    have e2 : L.extract (Pk.shL t.size).length ((Pk.shL t.size).length + t.size) = t := by
      apply bn_inj
      rw [bn_extract, h, List.append_assoc, List.drop_append_of_le_length (Nat.le_refl _), List.drop_of_length_le (Nat.le_refl _), List.nil_append, Nat.add_sub_cancel_left, List.take_append_of_le_length (by rw [bn_length]; exact Nat.le_refl _), List.take_of_length_le (by rw [bn_length]; exact Nat.le_refl _)]
    rw [e2]
  · rw [bn_back, h]
    have : (Pk.shL t.size ++ bn t).length = (Pk.shL t.size).length + t.size := by rw [List.length_append, bn_length]
    rw [List.drop_append_of_le_length (by omega), List.drop_of_length_le (by omega), List.nil_append]
theorem read_item {L : ByteArray} {x : It} {r : List Nat} (h : bn L = itL x ++ r) (hm : mayI x = true) : ∃ L1, itemR L 0 = (x, L1, 0) ∧ bn L1 = r := by
  simp [mayI] at hm
  unfold itL at h
  rw [List.append_assoc] at h
  obtain ⟨L1, e1, h1⟩ := read_text (most := 272) h (by omega) (by omega)
  obtain ⟨L2, e2, h2⟩ := read_text (most := 160) h1 (by omega) (by omega)
  refine ⟨L2, ?_, h2⟩
  unfold itemR
  rw [e1]
  show ((x.1, (textR L1 0 160).1), (textR L1 0 160).2.1, (textR L1 0 160).2.2) = _
  rw [e2]
theorem wrap_small (p : Int) (h : 0 ≤ p ∧ p < 9223372036854775808) : wrap64 p = p := by unfold wrap64; omega
theorem read_kid {L : ByteArray} {x : Kd} {r : List Nat} (h : bn L = kdL x ++ r) (hm : mayK x = true) : ∃ L1, kidR L 0 = (x, L1, 0) ∧ bn L1 = r := by
  simp [mayK] at hm
  unfold kdL at h
  rw [List.append_assoc] at h
  obtain ⟨L1, e1, h1⟩ := read_text (most := 272) h (by omega) (by omega)
  obtain ⟨L2, e2, h2⟩ := read_short h1 (by omega)
  refine ⟨L2, ?_, h2⟩
  unfold kidR
  rw [e1]
  show ((x.1, wrap64 ((shortR L1 0).1 : Int)), (shortR L1 0).2.1, (shortR L1 0).2.2) = _
  rw [e2]
  have e : ((x.2.toNat : Nat) : Int) = x.2 := Int.toNat_of_nonneg (by omega)
  show ((x.1, wrap64 ((x.2.toNat : Nat) : Int)), L2, 0) = _
  rw [e, wrap_small _ (by omega)]
theorem read_list {α : Type} {f : ByteArray → Nat → α × ByteArray × Nat} {g : α → List Nat} {P : α → Prop} (hf : ∀ L x r, bn L = g x ++ r → P x → ∃ L1, f L 0 = (x, L1, 0) ∧ bn L1 = r)
    (l : List α) (r : List Nat) (L : ByteArray) (h : bn L = l.flatMap g ++ r) (hP : ∀ x ∈ l, P x) : ∃ L1, listR f l.length L 0 = (l, L1, 0) ∧ bn L1 = r := by
  induction l generalizing L with
  | nil => exact ⟨L, rfl, by simpa using h⟩
  | cons x t ih =>
    rw [List.flatMap_cons, List.append_assoc] at h
    obtain ⟨L1, e1, h1⟩ := hf L x _ h (hP x List.mem_cons_self)
    obtain ⟨L2, e2, h2⟩ := ih L1 h1 (fun y hy => hP y (List.mem_cons_of_mem _ hy))
    refine ⟨L2, ?_, h2⟩
    rw [List.length_cons, listR_next, e1]
    show (x :: (listR f t.length L1 0).1, (listR f t.length L1 0).2) = _
    rw [e2]
theorem flat_ge {α : Type} {g : α → List Nat} (hg : ∀ x, 0 < (g x).length) (l : List α) : l.length ≤ (l.flatMap g).length := by
  induction l with
  | nil => simp
  | cons x t ih =>
    rw [List.flatMap_cons, List.length_append, List.length_cons]
    have := hg x
    omega
theorem itL_pos (x : It) : 0 < (itL x).length := by unfold itL; rw [List.length_append]; have := txL_pos x.1; omega
theorem kdL_pos (x : Kd) : 0 < (kdL x).length := by unfold kdL; rw [List.length_append]; have := txL_pos x.1; omega
/-- a right node's bytes are read as the node -/
theorem read_right {n : Nd} {S : ByteArray} (h : bn S = ndL n) (hr : rightB n = true) (hz : S.size ≤ 1007) :
    ((byteR S 0).1 = 1 ∨ (byteR S 0).1 = 2) ∧ (shortR (byteR S 0).2.1 (byteR S 0).2.2).1 ≤ 1007 ∧ ∃ L1, readN S = (n, L1, 0) ∧ L1.size = 0 := by
  have hlen : (ndL n).length ≤ 1007 := by rw [← h, bn_length]; exact hz
  obtain ⟨lf, its, kds⟩ := n
  cases lf with
  | true =>
    obtain ⟨rfl, _, hrise⟩ := right_leaf hr
    have hb : bn S = 1 :: (Pk.shL its.length ++ (its.flatMap itL ++ [])) := by rw [h, List.append_nil]; rfl
    have hn : its.length ≤ 1007 := by
      have := flat_ge itL_pos its
      have e : (ndL ⟨true, its, []⟩).length = 1 + ((Pk.shL its.length).length + (its.flatMap itL).length) := by
        show (1 :: (Pk.shL its.length ++ its.flatMap itL)).length = _
        rw [List.length_cons, List.length_append]
        omega
      omega
    obtain ⟨L1, e1, h1⟩ := read_byte hb
    obtain ⟨L2, e2, h2⟩ := read_short h1 (by omega)
    obtain ⟨L3, e3, h3⟩ := read_list (P := fun x => mayI x = true) (fun L x r => read_item) its [] L2 h2 (rise_all _ _ hrise)
    rw [e1]
    refine ⟨.inl rfl, ?_, L3, ?_, ?_⟩
    · show (shortR L1 0).1 ≤ _
      rw [e2]
      exact hn
    · unfold readN
      rw [e1, if_pos rfl]
      have ec : countR itemR L1 0 = (its, L3, 0) := by
        unfold countR
        rw [e2]
        exact e3
      show (({ leaf := true, its := (countR itemR L1 0).1, kds := [] } : Nd), (countR itemR L1 0).2) = _
      rw [ec]
    · rw [← bn_length, h3]; rfl
  | false =>
    obtain ⟨rfl, _, hrise⟩ := right_kids hr
    have hb : bn S = 2 :: (Pk.shL kds.length ++ (kds.flatMap kdL ++ [])) := by rw [h, List.append_nil]; rfl
    have hn : kds.length ≤ 1007 := by
      have := flat_ge kdL_pos kds
      have e : (ndL ⟨false, [], kds⟩).length = 1 + ((Pk.shL kds.length).length + (kds.flatMap kdL).length) := by
        show (2 :: (Pk.shL kds.length ++ kds.flatMap kdL)).length = _
        rw [List.length_cons, List.length_append]
        omega
      omega
    obtain ⟨L1, e1, h1⟩ := read_byte hb
    obtain ⟨L2, e2, h2⟩ := read_short h1 (by omega)
    obtain ⟨L3, e3, h3⟩ := read_list (P := fun x => mayK x = true) (fun L x r => read_kid) kds [] L2 h2 (rise_all _ _ hrise)
    rw [e1]
    refine ⟨.inr rfl, ?_, L3, ?_, ?_⟩
    · show (shortR L1 0).1 ≤ _
      rw [e2]
      exact hn
    · unfold readN
      rw [e1, if_neg (by simp), if_pos rfl]
      have ec : countR kidR L1 0 = (kds, L3, 0) := by
        unfold countR
        rw [e2]
        exact e3
      show (({ leaf := false, its := [], kds := (countR kidR L1 0).1 } : Nd), (countR kidR L1 0).2) = _
      rw [ec]
    · rw [← bn_length, h3]; rfl

/- and back -/
theorem one_byte {L : ByteArray} (h : (byteR L 0).2.2 = 0) : bn L = (byteR L 0).1 :: bn (byteR L 0).2.1 := by
  unfold byteR at *
  rw [if_neg (by simp)] at h ⊢
  by_cases h0 : L.size = 0
  · rw [if_pos h0] at h; simp at h
  · rw [if_neg h0]
    have hz : (bn L).length ≠ 0 := by rw [bn_length]; exact h0
    show bn L = (bn L).getD 0 0 :: bn (L.extract 1 L.size)
    rw [bn_back]
    cases hb : bn L with
    | nil => rw [hb] at hz; simp at hz
    | cons x t => rfl
theorem one_short {L : ByteArray} (h : (shortR L 0).2.2 = 0) : bn L = Pk.shL (shortR L 0).1 ++ bn (shortR L 0).2.1 := by
  unfold shortR at *
  rw [if_neg (by simp)] at h ⊢
  rcases scan_cases L with ⟨n, k, hsc, _, _, _, _, hk, htk⟩ | ⟨er, hsc, h0, _, _⟩
  · rw [hsc]
    show bn L = Pk.shL n ++ bn (L.extract k L.size)
    rw [bn_back, ← htk, List.take_append_drop]
  · rw [hsc] at h
    exact absurd h h0
theorem one_text {L : ByteArray} {most : Int} (h : (textR L 0 most).2.2 = 0) : bn L = txL (textR L 0 most).1 ++ bn (textR L 0 most).2.1 := by
  unfold textR at *
  rw [if_neg (by simp)] at h ⊢
  rcases scan_cases L with ⟨n, k, hsc, _, _, _, hks, hk, htk⟩ | ⟨er, hsc, h0, _, _⟩
  · by_cases h1 : most < 0 ∨ most < (n : Int)
    · rw [textOf_long hsc h1] at h; simp at h
    · by_cases h2 : L.size - k < n
      · rw [textOf_short hsc h1 h2] at h; simp at h
      · rw [textOf_ok hsc h1 h2]
        have hz : (L.extract k (k + n)).size = n := by rw [ByteArray.size_extract]; omega
        show bn L = txL (L.extract k (k + n)) ++ bn (L.extract (k + n) L.size)
        unfold txL
        rw [hz, ← htk, bn_back, bn_extract, Nat.add_sub_cancel_left, ← List.drop_drop, List.append_assoc, List.take_append_drop, List.take_append_drop]
  · rw [textOf_bad most hsc h0] at h
    exact absurd h h0
theorem one_item {L : ByteArray} (h : (itemR L 0).2.2 = 0) : bn L = itL (itemR L 0).1 ++ bn (itemR L 0).2.1 := by
  have h0 := itemR_ok h
  have h1 := one_text h0
  have e : itemR L 0 = (((textR L 0 272).1, (textR (textR L 0 272).2.1 0 160).1), (textR (textR L 0 272).2.1 0 160).2.1, (textR (textR L 0 272).2.1 0 160).2.2) := by unfold itemR; rw [h0]
  rw [e] at h ⊢
  simp only at h ⊢
  have h2 := one_text (L := (textR L 0 272).2.1) (most := 160) h
  unfold itL
  rw [List.append_assoc, ← h2, ← h1]
theorem one_kid {L : ByteArray} (h : (kidR L 0).2.2 = 0) (hm : mayK (kidR L 0).1 = true) : bn L = kdL (kidR L 0).1 ++ bn (kidR L 0).2.1 := by
  have h0 := kidR_ok h
  have h1 := one_text h0
  have e : kidR L 0 = (((textR L 0 272).1, wrap64 ((shortR (textR L 0 272).2.1 0).1 : Int)), (shortR (textR L 0 272).2.1 0).2.1, (shortR (textR L 0 272).2.1 0).2.2) := by unfold kidR; rw [h0]
  rw [e] at h hm ⊢
  simp only at h hm ⊢
  have h2 := one_short (L := (textR L 0 272).2.1) h
  have hlt := shortR_lt (textR L 0 272).2.1 0
  simp [mayK] at hm
  unfold kdL
  have en : (wrap64 ((shortR (textR L 0 272).2.1 0).1 : Int)).toNat = (shortR (textR L 0 272).2.1 0).1 := by
    unfold wrap64 at *
    omega
  show bn L = txL (textR L 0 272).1 ++ Pk.shL (wrap64 ((shortR (textR L 0 272).2.1 0).1 : Int)).toNat ++ bn (shortR (textR L 0 272).2.1 0).2.1
  rw [en, List.append_assoc, ← h2, ← h1]
theorem one_list {α : Type} {f : ByteArray → Nat → α × ByteArray × Nat} {g : α → List Nat} {P : α → Prop} (hf : ∀ L, (f L 0).2.2 = 0 → P (f L 0).1 → bn L = g (f L 0).1 ++ bn (f L 0).2.1)
    (c : Nat) (L : ByteArray) (h : (listR f c L 0).2.2 = 0) (hP : ∀ x ∈ (listR f c L 0).1, P x) : (listR f c L 0).1.length = c ∧ bn L = (listR f c L 0).1.flatMap g ++ bn (listR f c L 0).2.1 := by
  induction c generalizing L with
  | zero => exact ⟨rfl, rfl⟩
  | succ c ih =>
    rw [listR_next] at h hP ⊢
    by_cases h0 : (f L 0).2.2 = 0
    · rw [h0] at h hP ⊢
      obtain ⟨i1, i2⟩ := ih (f L 0).2.1 h (fun x hx => hP x (List.mem_cons_of_mem _ hx))
      have h1 := hf L h0 (hP _ List.mem_cons_self)
      refine ⟨by show _ + 1 = _; rw [i1], ?_⟩
      show bn L = ((f L 0).1 :: (listR f c (f L 0).2.1 0).1).flatMap g ++ bn (listR f c (f L 0).2.1 0).2.1
      rw [List.flatMap_cons, List.append_assoc, ← i2, ← h1]
    · rw [listR_err f c _ _ h0] at h
      exact absurd h h0
theorem listR_e {α : Type} {f : ByteArray → Nat → α × ByteArray × Nat} {c : Nat} {L : ByteArray} {e : Nat} (h : (listR f c L e).2.2 = 0) : e = 0 := by
  by_cases he : e = 0
  · exact he
  · rw [listR_err f c L e he] at h
    exact h
theorem shortR_e {L : ByteArray} {e : Nat} (h : (shortR L e).2.2 = 0) : e = 0 := by
  by_cases he : e = 0
  · exact he
  · rw [shortR_keeps L e he] at h
    exact h
/-- what is read, without an error, as a right node has just these bytes -/
theorem one_node {S : ByteArray} (hk : (byteR S 0).1 = 1 ∨ (byteR S 0).1 = 2) (he : (readN S).2.2 = 0) (hl : (readN S).2.1.size = 0) (hr : rightB (readN S).1 = true) : bn S = ndL (readN S).1 := by
  have hnil : ∀ L : ByteArray, L.size = 0 → bn L = [] := fun L h => List.length_eq_zero_iff.1 (by rw [bn_length]; exact h)
  by_cases h1 : (byteR S 0).1 = 1
  · have e : readN S = (⟨true, (countR itemR (byteR S 0).2.1 (byteR S 0).2.2).1, []⟩, (countR itemR (byteR S 0).2.1 (byteR S 0).2.2).2) := by unfold readN; rw [if_pos h1]
    rw [e] at he hl hr ⊢
    have e2 := listR_e he
    have e1 := shortR_e e2
    obtain ⟨_, _, hrise⟩ := right_leaf hr
    unfold countR at he hl hrise ⊢
    rw [e1] at he hl hrise e2 ⊢
    rw [e2] at he hl hrise ⊢
    obtain ⟨i1, i2⟩ := one_list (f := itemR) (g := itL) (P := fun x => mayI x = true) (fun L h _ => one_item h) _ _ he (rise_all _ _ hrise)
    have b0 := one_byte e1
    have b1 := one_short e2
    rw [h1] at b0
    show bn S = 1 :: (Pk.shL _ ++ _)
    have i2' := i2
    rw [hnil _ hl, List.append_nil] at i2'
    rw [i1, ← i2', ← b1, ← b0]
  · have h2 : (byteR S 0).1 = 2 := by omega
    have e : readN S = (⟨false, [], (countR kidR (byteR S 0).2.1 (byteR S 0).2.2).1⟩, (countR kidR (byteR S 0).2.1 (byteR S 0).2.2).2) := by unfold readN; rw [if_neg h1, if_pos h2]
    rw [e] at he hl hr ⊢
    have e2 := listR_e he
    have e1 := shortR_e e2
    obtain ⟨_, _, hrise⟩ := right_kids hr
    unfold countR at he hl hrise ⊢
    rw [e1] at he hl hrise e2 ⊢
    rw [e2] at he hl hrise ⊢
    obtain ⟨i1, i2⟩ := one_list (f := kidR) (g := kdL) (P := fun x => mayK x = true) (fun L h hm => one_kid h hm) _ _ he (rise_all _ _ hrise)
    have b0 := one_byte e1
    have b1 := one_short e2
    rw [h2] at b0
    show bn S = 2 :: (Pk.shL _ ++ _)
    have i2' := i2
    rw [hnil _ hl, List.append_nil] at i2'
    rw [i1, ← i2', ← b1, ← b0]

/-- the document's own way: the node, or the error -/
def refDec (S : ByteArray) : Nd × Nat :=
  if 1007 < S.size ∨ ¬ ((byteR S 0).1 = 1 ∨ (byteR S 0).1 = 2) ∨ 1007 < (shortR (byteR S 0).2.1 (byteR S 0).2.2).1 then (nd0, 60)
  else if (readN S).2.2 = 0 ∧ (readN S).2.1.size = 0 ∧ rightB (readN S).1 = true then ((readN S).1, 0) else (nd0, 60)
theorem refDec_eq (S : ByteArray) : refDec S = decodeN S := by
  unfold decodeN
  by_cases h : S.size ≤ 1007 ∧ encodeN (readN S).1 = (S, 0)
  · rw [if_pos h]
    obtain ⟨hz, he⟩ := h
    unfold encodeN at he
    split at he
    · rename_i hc
      have hr := checkN_right hc
      have hb : bn S = ndL (readN S).1 := by
        have := congrArg bn (Prod.ext_iff.1 he).1
        rw [bn_strOf _ (ndL_lt _)] at this
        exact this.symm
      obtain ⟨h1, h2, L1, h3, h4⟩ := read_right hb hr hz
      unfold refDec
      rw [if_neg (by omega), if_pos ⟨by rw [h3], by rw [h3]; exact h4, hr⟩]
    · rename_i hc
      exact absurd (Prod.ext_iff.1 he).2 hc
  · rw [if_neg h]
    unfold refDec
    by_cases h1 : 1007 < S.size ∨ ¬ ((byteR S 0).1 = 1 ∨ (byteR S 0).1 = 2) ∨ 1007 < (shortR (byteR S 0).2.1 (byteR S 0).2.2).1
    · rw [if_pos h1]
    · rw [if_neg h1]
      by_cases h2 : (readN S).2.2 = 0 ∧ (readN S).2.1.size = 0 ∧ rightB (readN S).1 = true
      · exfalso
        obtain ⟨a, b, c⟩ := h2
        have hb := one_node (by omega) a b c
        have hz : (ndL (readN S).1).length ≤ 1007 := by rw [← hb, bn_length]; omega
        refine h ⟨by omega, ?_⟩
        unfold encodeN
        have hc : checkN (readN S).1 = 0 := by unfold checkN; rw [if_pos c, if_neg (by omega)]
        rw [if_pos hc, ← hb, strOf_bn]
      · rw [if_neg h2]
end Go.Proofs.YtlmgmdnmghgkbaaGreatDoor.L6

/- What the document's own scan answers. -/
namespace Go.Proofs.YtlmgmdnmghgkbaaGreatDoor.L6
open Go.ChangeShapes Go.WideShapes Go.ChangeAt Go.RowKit

theorem and127 (b : Nat) (hb : b < 256) : bits .and .u8 (b : Int) 127 = ((b % 128 : Nat) : Int) := by
  have h := u8_and_nat b 127 hb (by decide)
  have e : b &&& 127 = b % 128 := Nat.and_two_pow_sub_one_eq_mod b 7
  rw [e] at h
  exact h
theorem and_lo (b : Nat) (hb : b < 128) : bits .and .u8 (b : Int) 127 = (b : Int) := by
  rw [and127 b (by omega)]
  omega
theorem and_hi (b : Nat) (hb : ¬ b < 128) (hb' : b < 256) : bits .and .u8 (b : Int) 127 = (b : Int) - 128 := by
  rw [and127 b hb']
  omega
theorem or_none (n i b : Nat) (hb : b = 0) (hn : n < 2 ^ (7 * i)) (hi : i ≤ 8) : bits .or .u64 (n : Int) (IntKind.u64.wrap 0) = ((n + b * 2 ^ (7 * i) : Nat) : Int) := by
  have h := or_lo n i 0 hn (by decide) hi
  subst hb
  have e : ((0 : Nat) : Int) * 2 ^ (7 * i) = 0 := by simp
  rw [e] at h
  exact h
theorem cast_one (i : Nat) : (i : Int) + 1 = ((i + 1 : Nat) : Int) := by omega
theorem ret3_int {k j l : IntKind} {a a' b b' c c' : Int} (h : a = a') (h' : b = b') (h'' : c = c') : Ending.returned (.tuple #[.int k a, .int j b, .int l c]) = .returned (.tuple #[.int k a', .int j b', .int l c']) := by rw [h, h', h'']

set_option maxRecDepth 10000 in
set_option maxHeartbeats 2000000 in
theorem refScan_any (s : ByteArray) (w : World) (hs : s.size ≤ maxLen) :
    Calls Tryz.prog 220 #[.string s] w fun e w' => e = .returned (.tuple #[.int .u64 ((Pk.scan (bn s)).1 : Int), .int .i64 ((Pk.scan (bn s)).2.1 : Int), .int .i64 ((Pk.scan (bn s)).2.2 : Int)]) ∧ w' = w := by
  unfold maxLen at hs
  go_enter Tryz.func220, Tryz.ntmps220
  go_wp2
  go_loop [5, 6] (fun t j => ∃ i n : Nat, i ≤ s.size ∧ j = .int .i64 i ∧ t = .int .u64 n ∧ At s i n) (fun _ j => 10 - (intOf j).toNat)
  case atStart => exact ⟨0, 0, by omega, rfl, rfl, by omega, by decide, rfl⟩
  case round =>
    obtain ⟨i, n, hi, rfl, rfl, hat⟩ := hrel
    have hi9 : i ≤ 9 := hat.1
    have HA := hide hat
    clear hat
    by_cases hlt : i < s.size
    · have hb : (s[i].toNat : Int) < 256 := by have := s[i].toNat_lt; omega
      by_cases hform : (i = 9 ∧ 1 < s[i].toNat) ∨ (0 < i ∧ s[i].toNat = 0)
      · have HF := hide ((unhide HA).bad hlt hform)
        by_cases h9 : i = 9
        · subst h9
          by_cases h1 : 1 < s[9].toNat
          · clear hform HA
            go_wp2
            go_ret3
            rw [unhide HF]
            exact ⟨rfl, rfl⟩
          · have h0 : s[9].toNat = 0 := by omega
            clear hform HA h1
            go_wp2
            go_ret3
            rw [unhide HF]
            exact ⟨rfl, rfl⟩
        · have h0 : s[i].toNat = 0 := by omega
          have hi0 : 0 < i := by omega
          have h9' : ((i : Int) == 9) = false := beq_eq_false_iff_ne.2 (by omega)
          clear hform HA h9
          go_wp2
          go_ret3
          rw [unhide HF]
          exact ⟨rfl, rfl⟩
      · by_cases h128 : s[i].toNat < 128
        · have HS := hide ((unhide HA).stop hlt hform h128)
          have hand := and_lo s[i].toNat h128
          by_cases h9 : i = 9
          · subst h9
            have h1 : ¬ 1 < s[9].toNat := by omega
            have h0 : 0 < s[9].toNat := by omega
            have HE := hide (or9 n s[9].toNat (unhide HA).2.1 (by omega))
            clear hform HA
            go_wp2
            go_ret3
            rw [unhide HS]
            exact ⟨ret3_int (unhide HE) rfl rfl, rfl⟩
          · have HE := hide (or_lo n i s[i].toNat (unhide HA).2.1 h128 (by omega))
            have h9' : ((i : Int) == 9) = false := beq_eq_false_iff_ne.2 (by omega)
            by_cases hi0 : 0 < i
            · have h0 : 0 < s[i].toNat := by omega
              clear hform HA h9
              go_wp2
              go_ret3
              rw [unhide HS]
              exact ⟨ret3_int (unhide HE) (cast_one i) rfl, rfl⟩
            · by_cases h0 : s[i].toNat = 0
              · have HN := hide (or_none n i s[i].toNat h0 (unhide HA).2.1 (by omega))
                have ha0 : bits .and .u8 (0 : Int) 127 = 0 := and_lo 0 (by decide)
                have HS' : Hid (Pk.scan (bn s) = (n + s[i].toNat * 2 ^ (7 * i), i + 1, 0)) := unhide HS
                clear hform HA h9 HE HS
                generalize n + s[i].toNat * 2 ^ (7 * i) = r at *
                go_wp2
                go_ret3
                rw [unhide HS']
                exact ⟨ret3_int (unhide HN) (cast_one i) rfl, rfl⟩
              · have h0' : 0 < s[i].toNat := by omega
                clear hform HA h9 h0
                go_wp2
                go_ret3
                rw [unhide HS]
                exact ⟨ret3_int (unhide HE) (cast_one i) rfl, rfl⟩
        · have HS := hide ((unhide HA).step hlt hform h128)
          have h9 : ¬ i = 9 := by omega
          have HE := hide (or_hi n i s[i].toNat (unhide HA).2.1 h128 (by omega) (by omega))
          have hand := and_hi s[i].toNat h128 (by omega)
          have h9' : ((i : Int) == 9) = false := beq_eq_false_iff_ne.2 (by omega)
          have hi8 : i < 9 := by omega
          clear hform HA h9
          go_wp2
          go_round
          case rel => exact ⟨i + 1, _, by omega, by go_num, int_eq (unhide HE), unhide HS⟩
          case measure => simp [intOf]; omega
    · have HF := hide ((unhide HA).out (by omega))
      clear HA
      go_wp2
      go_ret3
      rw [unhide HF]
      exact ⟨rfl, rfl⟩
end Go.Proofs.YtlmgmdnmghgkbaaGreatDoor.L6

/- What the document's own reader answers, call by call: the same functions. -/
namespace Go.Proofs.YtlmgmdnmghgkbaaGreatDoor.L6
open Go.ChangeShapes Go.WideShapes Go.ChangeAt Go.RowKit

/-- the document's reader in memory -/
def Rm (w : World) (r : Nat) (L : ByteArray) (e : Nat) : Prop := w.heap[r]? = some (.cells #[.string L, .int .i64 (e : Int)] 296 (0, 0))
theorem Rm.cell0 {w : World} {r e : Nat} {L : ByteArray} (h : Rm w r L e) : w.cell? ⟨r, 0, none⟩ = some (.string L) := by
  unfold Rm at h
  simp [World.cell?, h]
theorem Rm.cell1 {w : World} {r e : Nat} {L : ByteArray} (h : Rm w r L e) : w.cell? ⟨r, 1, none⟩ = some (.int .i64 (e : Int)) := by
  unfold Rm at h
  simp [World.cell?, h]
theorem Rm.free {w : World} {r e : Nat} {L : ByteArray} (h : Rm w r L e) (i : Nat) : w.frozen? ⟨r, i, none⟩ = false := by
  unfold Rm at h
  simp [World.frozen?, h]
theorem Rm.lt {w : World} {r e : Nat} {L : ByteArray} (h : Rm w r L e) : r < w.heap.size := (Array.getElem?_eq_some_iff.1 h).1
theorem Rm.setErr {w : World} {r e : Nat} {L : ByteArray} (h : Rm w r L e) (e' : Nat) : Rm (w.setCell ⟨r, 1, none⟩ (.int .i64 (e' : Int))) r L e' := by
  unfold Rm at *
  simp [World.setCell, Array.getElem?_modify, h]
theorem Rm.setLeft {w : World} {r e : Nat} {L : ByteArray} (h : Rm w r L e) (L' : ByteArray) : Rm (w.setCell ⟨r, 0, none⟩ (.string L')) r L' e := by
  unfold Rm at *
  simp [World.setCell, Array.getElem?_modify, h]
def ToldM (w w' : World) (r : Nat) (L : ByteArray) (e : Nat) : Prop := w.grownBy w' (some r) ∧ Rm w' r L e
theorem ToldM.refl {w : World} {r e : Nat} {L : ByteArray} (h : Rm w r L e) : ToldM w w r L e := ⟨grown_refl _ _, h⟩
theorem ToldM.err {w : World} {r e : Nat} {L : ByteArray} (h : Rm w r L e) (e' : Nat) : ToldM w (w.setCell ⟨r, 1, none⟩ (.int .i64 (e' : Int))) r L e' := ⟨grown_set _ _ _ _, h.setErr e'⟩
theorem ToldM.left {w : World} {r e : Nat} {L : ByteArray} (h : Rm w r L e) (L' : ByteArray) : ToldM w (w.setCell ⟨r, 0, none⟩ (.string L')) r L' e := ⟨grown_set _ _ _ _, h.setLeft L'⟩
theorem ToldM.both {w : World} {r e : Nat} {L : ByteArray} (h : Rm w r L e) (e' : Nat) (L' : ByteArray) : ToldM w ((w.setCell ⟨r, 1, none⟩ (.int .i64 (e' : Int))).setCell ⟨r, 0, none⟩ (.string L')) r L' e' :=
  ⟨grown_trans (grown_set _ _ _ _) (grown_set _ _ _ _), (h.setErr e').setLeft L'⟩

/- Byte -/
set_option maxRecDepth 10000 in
set_option maxHeartbeats 1000000 in
theorem refByte_any (r e : Nat) (L : ByteArray) (w : World) (hr : Rm w r L e) (hL : L.size ≤ 1000000) :
    Calls Tryz.prog 187 #[.pointer (some ⟨r, 0, none⟩)] w fun x w' => x = .returned (.int .u8 ((byteR L e).1 : Int)) ∧ ToldM w w' r (byteR L e).2.1 (byteR L e).2.2 := by
  have h0 := hr.cell0
  have h1 := hr.cell1
  have f0 := hr.free 0
  have f1 := hr.free 1
  have HR := hide hr
  clear hr
  unfold byteR
  by_cases he : e ≠ 0
  · rw [if_pos he]
    have hne : ((e : Int) == 0) = false := beq_eq_false_iff_ne.2 (by omega)
    have hne2 : ((e : Int) != 0) = true := bne_iff_ne.2 (by omega)
    clear he
    go_enter Tryz.func187, Tryz.ntmps187
    go_wp2
    go_ret
    exact ⟨rfl, .refl (unhide HR)⟩
  · obtain rfl : e = 0 := by omega
    rw [if_neg he]
    clear he
    by_cases hz : L.size = 0
    · rw [if_pos hz]
      have hemp : L.toList.isEmpty = true := by rw [ByteArray.toList_eq, List.isEmpty_iff, List.eq_nil_iff_length_eq_zero, Array.length_toList]; exact hz
      clear hz
      go_enter Tryz.func187, Tryz.ntmps187
      go_wp2
      go_ret
      exact ⟨rfl, .err (unhide HR) 20⟩
    · rw [if_neg hz]
      have hp : 0 < L.size := by omega
      have hfull := full_of hp
      have HB := hide (byte0 L hp)
      clear hz
      go_enter Tryz.func187, Tryz.ntmps187
      go_wp2
      go_ret
      rw [unhide HB]
      exact ⟨rfl, .left (unhide HR) _⟩

/- Fixed -/
/- Short -/
set_option maxRecDepth 10000 in
set_option maxHeartbeats 1000000 in
theorem refShortR_any (r e : Nat) (L : ByteArray) (w : World) (hr : Rm w r L e) (hL : L.size ≤ 1000000) :
    Calls Tryz.prog 188 #[.pointer (some ⟨r, 0, none⟩)] w fun x w' => x = .returned (.int .u64 ((shortR L e).1 : Int)) ∧ ToldM w w' r (shortR L e).2.1 (shortR L e).2.2 := by
  have h0 := hr.cell0
  have h1 := hr.cell1
  have f0 := hr.free 0
  have f1 := hr.free 1
  have HR := hide hr
  clear hr
  unfold shortR
  by_cases he : e ≠ 0
  · rw [if_pos he]
    have hne : ((e : Int) == 0) = false := beq_eq_false_iff_ne.2 (by omega)
    have hne2 : ((e : Int) != 0) = true := bne_iff_ne.2 (by omega)
    clear he
    go_enter Tryz.func188, Tryz.ntmps188
    go_wp2
    go_ret
    exact ⟨rfl, .refl (unhide HR)⟩
  · obtain rfl : e = 0 := by omega
    rw [if_neg he]
    clear he
    have HS := hide (refScan_any L w (by unfold maxLen; omega))
    have hk := scan_le L
    generalize Pk.scan (bn L) = T at *
    obtain ⟨n, k, er⟩ := T
    have hk' : k ≤ L.size := hk
    clear hk
    go_enter Tryz.func188, Tryz.ntmps188
    go_wp2_with (go_at_call 220; refine (unhide HS).mono ?_; rintro x w' ⟨rfl, hw⟩; have hw := hw.symm; subst hw)
    go_ret
    exact ⟨rfl, .both (unhide HR) _ _⟩

/- Left, End -/
set_option maxRecDepth 10000 in
set_option maxHeartbeats 1000000 in
theorem refEnd_any (r e : Nat) (L : ByteArray) (w : World) (hr : Rm w r L e) :
    Calls Tryz.prog 190 #[.pointer (some ⟨r, 0, none⟩)] w fun x w' => x = .returned (.int .i64 (endR L e : Int)) ∧ w' = w := by
  have h0 := hr.cell0
  have h1 := hr.cell1
  clear hr
  unfold endR
  by_cases he : e = 0
  · subst he
    rw [if_neg (by simp)]
    by_cases hz : L.size = 0
    · rw [if_pos hz]
      have hemp : L.toList.isEmpty = true := by rw [ByteArray.toList_eq, List.isEmpty_iff, List.eq_nil_iff_length_eq_zero, Array.length_toList]; exact hz
      clear hz
      go_enter Tryz.func190, Tryz.ntmps190
      go_wp2
      go_ret
      exact ⟨rfl, rfl⟩
    · rw [if_neg hz]
      have hfull := full_of (s := L) (by omega)
      clear hz
      go_enter Tryz.func190, Tryz.ntmps190
      go_wp2
      go_ret
      exact ⟨rfl, rfl⟩
  · have hne : ((e : Int) == 0) = false := beq_eq_false_iff_ne.2 (by omega)
    have hne2 : ((e : Int) != 0) = true := bne_iff_ne.2 (by omega)
    rw [if_pos he]
    clear he
    go_enter Tryz.func190, Tryz.ntmps190
    go_wp2
    go_ret
    exact ⟨rfl, rfl⟩
end Go.Proofs.YtlmgmdnmghgkbaaGreatDoor.L6

/- What the document's own reader answers of a text. -/
namespace Go.Proofs.YtlmgmdnmghgkbaaGreatDoor.L6
open Go.ChangeShapes Go.WideShapes Go.ChangeAt Go.RowKit

set_option maxRecDepth 10000 in
set_option maxHeartbeats 4000000 in
theorem refText_in (r : Nat) (L : ByteArray) (most : Int) (w : World) (hr : Rm w r L 0) (hL : L.size ≤ 1000000) (hm : -9223372036854775808 ≤ most ∧ most ≤ 9223372036854775807) :
    Calls Tryz.prog 189 #[.pointer (some ⟨r, 0, none⟩), .int .i64 most] w fun x w' => x = .returned (.string (textOf L most).1) ∧ ToldM w w' r (L.extract (textOf L most).2.1 L.size) (textOf L most).2.2 := by
  have h0 := hr.cell0
  have h1 := hr.cell1
  have f0 := hr.free 0
  have f1 := hr.free 1
  have HR := hide hr
  clear hr
  have hS := refScan_any L w (by unfold maxLen; omega)
  rcases scan_cases L with ⟨n, k, hsc, hn, hk0, hk10, hks, hx1, hx2⟩ | ⟨er, hsc, hne0, he1, he2⟩
  · clear hx1 hx2
    rw [hsc] at hS
    have HS := hide hS
    clear hS
    by_cases hlong : most < 0 ∨ most < (n : Int)
    · rw [textOf_long hsc hlong]
      rw [show L.extract 0 L.size = L from ext0 L]
      clear hsc
      by_cases hneg : most < 0
      · clear hlong
        go_enter Tryz.func189, Tryz.ntmps189
        go_wp2_with (go_at_call 220; refine (unhide HS).mono ?_; rintro x w' ⟨rfl, hw⟩; have hw := hw.symm; subst hw)
        go_ret
        exact ⟨rfl, .err (unhide HR) 22⟩
      · have hlt : most < (n : Int) := by omega
        clear hlong
        go_enter Tryz.func189, Tryz.ntmps189
        go_wp2_with (go_at_call 220; refine (unhide HS).mono ?_; rintro x w' ⟨rfl, hw⟩; have hw := hw.symm; subst hw)
        go_ret
        exact ⟨rfl, .err (unhide HR) 22⟩
    · have hneg : ¬ most < 0 := by omega
      have hge : ¬ most < (n : Int) := by omega
      by_cases hfew : L.size - k < n
      · rw [textOf_short hsc hlong hfew]
        rw [show L.extract 0 L.size = L from ext0 L]
        clear hsc hlong
        go_enter Tryz.func189, Tryz.ntmps189
        go_wp2_with (go_at_call 220; refine (unhide HS).mono ?_; rintro x w' ⟨rfl, hw⟩; have hw := hw.symm; subst hw)
        go_ret
        exact ⟨rfl, .err (unhide HR) 20⟩
      · rw [textOf_ok hsc hlong hfew]
        clear hsc hlong
        have hsum : k + n ≤ L.size := by omega
        go_enter Tryz.func189, Tryz.ntmps189
        go_wp2_with (go_at_call 220; refine (unhide HS).mono ?_; rintro x w' ⟨rfl, hw⟩; have hw := hw.symm; subst hw)
        go_ret
        exact ⟨rfl, .left (unhide HR) _⟩
  · rw [hsc] at hS
    have HS := hide hS
    clear hS
    rw [textOf_bad most hsc hne0]
    rw [show L.extract 0 L.size = L from ext0 L]
    clear hsc
    have hne : ((er : Int) == 0) = false := beq_eq_false_iff_ne.2 (by omega)
    have hne2 : ((er : Int) != 0) = true := bne_iff_ne.2 (by omega)
    clear hne0
    go_enter Tryz.func189, Tryz.ntmps189
    go_wp2_with (go_at_call 220; refine (unhide HS).mono ?_; rintro x w' ⟨rfl, hw⟩; have hw := hw.symm; subst hw)
    go_ret
    exact ⟨rfl, .err (unhide HR) er⟩

set_option maxRecDepth 10000 in
set_option maxHeartbeats 1000000 in
theorem refTextR_any (r e : Nat) (L : ByteArray) (most : Int) (w : World) (hr : Rm w r L e) (hL : L.size ≤ 1000000) (hm : -9223372036854775808 ≤ most ∧ most ≤ 9223372036854775807) :
    Calls Tryz.prog 189 #[.pointer (some ⟨r, 0, none⟩), .int .i64 most] w fun x w' => x = .returned (.string (textR L e most).1) ∧ ToldM w w' r (textR L e most).2.1 (textR L e most).2.2 := by
  unfold textR
  by_cases he : e ≠ 0
  · rw [if_pos he]
    have h1 := hr.cell1
    have HR := hide hr
    clear hr
    have hne : ((e : Int) == 0) = false := beq_eq_false_iff_ne.2 (by omega)
    have hne2 : ((e : Int) != 0) = true := bne_iff_ne.2 (by omega)
    clear he
    go_enter Tryz.func189, Tryz.ntmps189
    go_wp2
    go_ret
    exact ⟨rfl, .refl (unhide HR)⟩
  · obtain rfl : e = 0 := by omega
    rw [if_neg he]
    exact refText_in r L most w hr hL hm
end Go.Proofs.YtlmgmdnmghgkbaaGreatDoor.L6

/- What the document's Decode has in memory while it reads: where its answer goes, its reader, its node. -/
namespace Go.Proofs.YtlmgmdnmghgkbaaGreatDoor.L6
open Go.ChangeShapes Go.WideShapes Go.ChangeAt Go.RowKit

theorem Rm.below {w w' : World} {r e : Nat} {L : ByteArray} (h : Rm w r L e) (hb : Below w.heap.size w w') : Rm w' r L e := (hb.block r h.lt).trans h
theorem Rm.new (w : World) (s : ByteArray) : Rm (w.alloc (.cells #[.string s, .int .i64 0] 296)) w.heap.size s 0 := heap_alloc_new w _
theorem Nblk.toldM {w w' : World} {p : Nat} {L : Bool} {ai ak : Option Addr} {il ci kl ck : Nat} {r e : Nat} {M : ByteArray} (h : Nblk w p L ai il ci ak kl ck) (ht : ToldM w w' r M e) (hp : p ≠ r) : Nblk w' p L ai il ci ak kl ck := (ht.1.block p h.lt (fun e => hp (Option.some.inj e))).trans h
theorem Nblk.notRm {w : World} {p r e : Nat} {L : Bool} {ai ak : Option Addr} {il ci kl ck : Nat} {M : ByteArray} (h : Nblk w p L ai il ci ak kl ck) (hr : Rm w r M e) : p ≠ r := by
  intro e
  subst e
  unfold Nblk at h
  unfold Rm at hr
  rw [h] at hr
  simp at hr

structure Dst (W : World) (p g q B : Nat) (wr : World) (L : ByteArray) (e : Nat) (lf : Bool) (ai : Option Addr) (il ci : Nat) (ak : Option Addr) (kl ck : Nat) : Prop where
  bel : Below W.heap.size W wr
  res : Nblk wr p false none 0 0 none 0 0
  rd : Rm wr g L e
  nd : Nblk wr q lf ai il ci ak kl ck
  ne : p ≠ q
  lp : W.heap.size ≤ p
  lg : W.heap.size ≤ g
  lq : W.heap.size ≤ q
  lb : W.heap.size ≤ B
  bz : B ≤ wr.heap.size
variable {W wr w' : World} {p g q B : Nat} {L : ByteArray} {e : Nat} {lf : Bool} {ai ak : Option Addr} {il ci kl ck : Nat}
theorem Dst.grow (h : Dst W p g q B wr L e lf ai il ci ak kl ck) (hb : Below wr.heap.size wr w') : Dst W p g q B w' L e lf ai il ci ak kl ck :=
  ⟨below_then h.bel hb, h.res.below hb, h.rd.below hb, h.nd.below hb, h.ne, h.lp, h.lg, h.lq, h.lb, Nat.le_trans h.bz hb.size⟩
theorem Dst.told {L' : ByteArray} {e' : Nat} (h : Dst W p g q B wr L e lf ai il ci ak kl ck) (ht : ToldM wr w' g L' e') : Dst W p g q B w' L' e' lf ai il ci ak kl ck :=
  ⟨h.bel.grown ht.1 h.bel.size (fun k hk => by injection hk with hk; have := h.lg; omega), h.res.toldM ht (h.res.notRm h.rd), ht.2, h.nd.toldM ht (h.nd.notRm h.rd), h.ne, h.lp, h.lg, h.lq, h.lb, Nat.le_trans h.bz ht.1.size⟩
/-- behind an append to a row of one's own -/
theorem Dst.app {β : Type} {sv : β → Value} {T : TypeId} {v : Value} {l : List (ByteArray × β)} (h : Dst W p g q B wr L e lf ai il ci ak kl ck) (ho : OwnE sv T B wr v l) (h25 : T ≠ 43) (h55 : T ≠ 296) (hg : wr.grownBy w' v.ownBlock) : Dst W p g q B w' L e lf ai il ci ak kl ck :=
  ⟨h.bel.grown hg h.bel.size (fun k hk => by have := (World.ownsRow.lt ho k hk).1; have := h.lb; omega),
    (hg.block p h.res.lt (ho.other h.res h25).symm).trans h.res, (hg.block g h.rd.lt (ho.other h.rd h55).symm).trans h.rd, (hg.block q h.nd.lt (ho.other h.nd h25).symm).trans h.nd, h.ne, h.lp, h.lg, h.lq, h.lb, Nat.le_trans h.bz hg.size⟩
theorem Dst.set1 (h : Dst W p g q B wr L e lf ai il ci ak kl ck) (a : Option Addr) (n c : Nat) : Dst W p g q B (wr.setCell ⟨q, 1, none⟩ (.slice a n c)) L e lf a n c ak kl ck :=
  ⟨h.bel.setCell h.lq _, (Below.heap_setCell wr ⟨q, 1, none⟩ _ p h.ne).trans h.res, (Below.heap_setCell wr ⟨q, 1, none⟩ _ g (h.nd.notRm h.rd).symm).trans h.rd, h.nd.set1 a n c, h.ne, h.lp, h.lg, h.lq, h.lb, by have := h.bz; simpa [World.setCell] using this⟩
theorem Dst.set2 (h : Dst W p g q B wr L e lf ai il ci ak kl ck) (a : Option Addr) (n c : Nat) : Dst W p g q B (wr.setCell ⟨q, 2, none⟩ (.slice a n c)) L e lf ai il ci a n c :=
  ⟨h.bel.setCell h.lq _, (Below.heap_setCell wr ⟨q, 2, none⟩ _ p h.ne).trans h.res, (Below.heap_setCell wr ⟨q, 2, none⟩ _ g (h.nd.notRm h.rd).symm).trans h.rd, h.nd.set2 a n c, h.ne, h.lp, h.lg, h.lq, h.lb, by have := h.bz; simpa [World.setCell] using this⟩
theorem OwnE.set {β : Type} {sv : β → Value} {T : TypeId} {v : Value} {l : List (ByteArray × β)} (ho : OwnE sv T B wr v l) (h : Nblk wr q lf ai il ci ak kl ck) (h25 : T ≠ 43) (j : Nat) (u : Value) : OwnE sv T B (wr.setCell ⟨q, j, none⟩ u) v l :=
  ownsRow_setCell_other (a := ⟨q, j, none⟩) ho (ho.other h h25) u
theorem OwnE.toldM {β : Type} {sv : β → Value} {T : TypeId} {v : Value} {l : List (ByteArray × β)} {L' : ByteArray} {e' : Nat} (ho : OwnE sv T B wr v l) (h55 : T ≠ 296) (hr : Rm wr g L e) (ht : ToldM wr w' g L' e') : OwnE sv T B w' v l :=
  World.ownsRow.kept ho ht.1 (.inr (ho.other hr h55))

/-- what is stored in the end, or the error -/
theorem dec_zero (w : World) (x : Ending) (w' : World) (hx : x = .returned (.tuple #[.agg #[.bool false, .slice none 0 0, .slice none 0 0], .int .i64 60])) (hb : Below w.heap.size w w') : DecSaid (nd0, 60) w x w' :=
  ⟨none, none, 0, 0, hx, ⟨.inl rfl, .inl rfl⟩, hb⟩
theorem refDec_bad {S : ByteArray} (h : 1007 < S.size ∨ ¬ ((byteR S 0).1 = 1 ∨ (byteR S 0).1 = 2) ∨ 1007 < (shortR (byteR S 0).2.1 (byteR S 0).2.2).1) : decodeN S = (nd0, 60) := by
  rw [← refDec_eq]
  unfold refDec
  rw [if_pos h]
theorem refDec_in {S : ByteArray} (h : ¬ (1007 < S.size ∨ ¬ ((byteR S 0).1 = 1 ∨ (byteR S 0).1 = 2) ∨ 1007 < (shortR (byteR S 0).2.1 (byteR S 0).2.2).1)) :
    decodeN S = if (readN S).2.2 = 0 ∧ (readN S).2.1.size = 0 ∧ rightB (readN S).1 = true then ((readN S).1, 0) else (nd0, 60) := by
  rw [← refDec_eq]
  unfold refDec
  rw [if_neg h]
end Go.Proofs.YtlmgmdnmghgkbaaGreatDoor.L6
