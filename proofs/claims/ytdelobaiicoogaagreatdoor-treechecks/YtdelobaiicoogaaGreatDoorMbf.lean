/- Texts that the proof needs, one behind the other. -/
import Derived.Test.YtdelobaiicoogaaGreatDoorMbd
import Derived.Test.YtdelobaiicoogaaGreatDoorMbb
import Derived.Test.YtdelobaiicoogaaGreatDoorMbe
/- The document's heap: Put. -/
namespace Go.Proofs.YtdelobaiicoogaaGreatDoor
open Go.ChangeShapes Go.WideShapes Go.ChangeAt Go.RowKit
variable {w w' : World} {q r : Nat} {h : Hp} {a g : Nat} {fr : List Nat} {kv : List Value} {F : List Nat}

theorem take_succ_count (l : List Int) (k : Nat) (hk : k < l.length) (x : Int) : (l.take (k + 1)).count x = (l.take k).count x + (if l[k] = x then 1 else 0) := by
  rw [List.take_add_one, List.getElem?_eq_getElem hk]
  show (l.take k ++ [l[k]]).count x = _
  rw [List.count_append, List.count_singleton]
  congr 1
  by_cases e : l[k] = x <;> simp [e]
theorem cellsM {w w' : World} {a : Addr} {v : Value} {fq : List Nat} (hm : Moves fq w w') (hc : w.cell? a = some v) (ha : a.block ∉ fq) : w'.cell? a = some v :=
  (World.cell?_of_block (hm.block a.block (World.block_lt_of_cell? _ _ hc) ha)).trans hc
theorem old_write (m : L3.Dk) (n : Int) (s : ByteArray) : (L3.writeM m n s).old.length = m.old.length := by
  unfold L3.writeM
  repeat' split
  all_goals rfl

set_option maxHeartbeats 8000000 in
set_option maxRecDepth 20000 in
theorem rhput_any (n : L6.Nd) (ai ak : Option Addr) (ci ck : Nat) (w : World) (H : IsRh w q h F) (hn : L6.Has w n ai ak) (hil : n.its.length ≤ 1100) (hkl : n.kds.length ≤ 1100) (hop : h.dk.op.length ≤ 1000000) :
    Calls Tryz.prog 11 #[.pointer (some ⟨q, 0, none⟩), .agg #[.bool n.leaf, .slice ai n.its.length ci, .slice ak n.kds.length ck]] w fun e w' => e = .returned (.tuple #[.int .i64 (putR h n).1, .int .i64 (putR h n).2.1]) ∧ RhTurned w w' q (putR h n).2.2 F := by
  have hb0 := below_alloc w (.cells #[.bool n.leaf, .slice ai n.its.length ci, .slice ak n.kds.length ck] 38)
  have q0 : (w.alloc (.cells #[.bool n.leaf, .slice ai n.its.length ci, .slice ak n.kds.length ck] 38)).cell? ⟨w.heap.size, 0, none⟩ = some (.bool n.leaf) := by simp
  have q1 : (w.alloc (.cells #[.bool n.leaf, .slice ai n.its.length ci, .slice ak n.kds.length ck] 38)).cell? ⟨w.heap.size, 1, none⟩ = some (.slice ai n.its.length ci) := by simp
  have q2 : (w.alloc (.cells #[.bool n.leaf, .slice ai n.its.length ci, .slice ak n.kds.length ck] 38)).cell? ⟨w.heap.size, 2, none⟩ = some (.slice ak n.kds.length ck) := by simp
  have HN := hide (hn.grow hb0)
  have HH := hide (H.grow hb0)
  have HH0 := hide H
  have HB := hide hb0
  have HIL := hide hil
  have HKL := hide hkl
  have HOP := hide hop
  clear hn H hb0 hil hkl hop
  obtain ⟨B, hB⟩ : ∃ x, x = w.heap.size := ⟨_, rfl⟩
  by_cases hE : (L6.encodeN n).2 = 0
  · go_enter Tryz.func11, Tryz.ntmps11
    go_wp2_with fail
    have HE := hide hE
    rw [← hB] at q0 q1 q2 ⊢
    have HBE := hide hB
    clear hB
    generalize w.alloc (.cells #[.bool n.leaf, .slice ai n.its.length ci, .slice ak n.kds.length ck] 38) = w1 at *
    refine (L6.refEncode_any n ai ak ci ck w1 (unhide HN) (unhide HIL) (unhide HKL)).mono ?_
    rintro x w2 ⟨rfl, hb2⟩
    rw [hE]
    clear hE
    obtain ⟨Y, hY⟩ : ∃ x, x = (L6.encodeN n).1 := ⟨_, rfl⟩
    rw [← hY]
    have HY := hide hY
    clear hY
    have q0' := (hb2.cell (World.block_lt_of_cell? _ _ q0)).trans q0
    have q1' := (hb2.cell (World.block_lt_of_cell? _ _ q1)).trans q1
    have q2' := (hb2.cell (World.block_lt_of_cell? _ _ q2)).trans q2
    have HN2 := hide ((unhide HN).grow hb2)
    have HH2 := hide ((unhide HH).grow hb2)
    have HB2 := hide (below_then (unhide HB) hb2)
    clear hb2 q0 q1 q2 HN HH HB
    go_wp2_with fail
    refine (rkids_any n ai ak ci ck w2 (unhide HN2) (unhide HKL)).mono ?_
    rintro x w3 ⟨v, rfl, hv3, hg3, hb3⟩
    have q0 := (hb3.cell (World.block_lt_of_cell? _ _ q0')).trans q0'
    have q1 := (hb3.cell (World.block_lt_of_cell? _ _ q1')).trans q1'
    have q2 := (hb3.cell (World.block_lt_of_cell? _ _ q2')).trans q2'
    have HV := hide hv3
    obtain ⟨r, a, g, fr, kv, R3, rfl⟩ := (unhide HH2).grow hb3
    have HH3 := hide R3
    have HB3 := hide (below_then (unhide HB2) hb3)
    clear hb3 hv3 hg3 q0' q1' q2' HN2 HH2 HB2 R3
    have hlen : (places n).length ≤ 1100 := by unfold places; rw [List.length_map]; exact unhide HKL
    have HLEN := hide hlen
    have HPX : Hid (∀ x ∈ places n, 2 ≤ x ∧ x < 4096) := enc_places (unhide HE)
    have HQS := hide (And.intro q0 (And.intro q1 q2))
    clear hlen q0 q1 q2
    obtain ⟨ks, hks⟩ : ∃ x, x = places n := ⟨_, rfl⟩
    rw [← hks] at HV HLEN HPX
    have HKS := hide hks
    clear hks
    obtain ⟨a0, cap0, rfl⟩ := (unhide HV).form
    go_wp2_with fail
    go_loopw [9] (fun t wr => ∃ k : Nat, k ≤ ks.length ∧ t = .int .i64 (k : Int) ∧ (∀ j (hj : j < ks.length), j < k → cntL h.al ks[j] ≠ 0) ∧ Below w3.heap.size w3 wr) (fun t _ => ks.length - (intOf t).toNat)
    case atStart => exact ⟨0, Nat.zero_le _, rfl, (fun j hj h => absurd h (Nat.not_lt_zero _)), Below.refl _ _⟩
    case round =>
      obtain ⟨k, hk, rfl, hc0, hb⟩ := hrel
      have HC := hide hc0
      have HB := hide hb
      have hL := unhide HLEN
      clear hc0 hb
      by_cases hlt : k < ks.length
      · obtain ⟨gb, rfl, hcell⟩ := ((unhide HV).grow (unhide HB)).at k hlt
        have hx := unhide HPX ks[k] (List.getElem_mem hlt)
        have c1 := ((unhide HH3).grow (unhide HB)).cell1
        have HA : Hid (L5.RefAt wr.drew a g 2 h.al) := ((unhide HH3).grow (unhide HB)).al.grow (below_drew wr)
        have hI : L5.I64 ks[k] := by unfold L5.I64; omega
        have HI := hide hI
        have hlt' : (k : Int) < (ks.length : Int) := by omega
        obtain ⟨X, hX⟩ : ∃ y, y = ks[k] := ⟨_, rfl⟩
        rw [← hX] at hcell HI
        have HXE := hide hX
        clear hx hI hX
        by_cases hz : cntL h.al X = 0
        · have hz' : ((L5.cntS (L5.sec 2 h.al X) : Nat) : Int) = 0 := by have : L5.cntS (L5.sec 2 h.al X) = 0 := hz; omega
          have HZ := hide hz
          have HZE := hide hz'
          clear hz hz'
          go_wp2_with fail
          go_region_held3 (fun w' => w'.cell? ⟨q, 1, none⟩ = some (.pointer (some ⟨a, 0, none⟩)) ∧ w'.cell? ⟨gb, k, none⟩ = some (.int .i64 X))
            (first | assumption | exact ⟨c1, hcell⟩ | exact ⟨d1, dcell⟩)
            (first
              | (go_at_call 32; go_split_ands; refine (L5.rcount_any X (unhide HI) _ (unhide HA)).mono ?_; rintro e w4 ⟨rfl, hb4⟩; rw [unhide HZE]; have d1 := (hb4.cell (World.block_lt_of_cell? _ _ (show wr.drew.cell? _ = _ from c1))).trans c1; have dcell := (hb4.cell (World.block_lt_of_cell? _ _ (show wr.drew.cell? _ = _ from hcell))).trans hcell; have HB4 := hide (below_then (below_drew wr) hb4); clear hb4))
          all_goals
            go_wp2
            go_ret2
            have hD : putR h n = (0, 51, h) := by
              have hm : mayE h.al (places n) = 51 := by
                unfold mayE
                rw [← unhide HKS, any_of hlt (by rw [← unhide HXE]; simpa using unhide HZ), if_pos rfl]
              unfold putR
              rw [if_neg (fun hn => hn (unhide HE)), hm, if_pos (by decide)]
            rw [hD]
            exact ⟨rfl, (unhide HH0).stays (below_then (unhide HB3) (below_then (unhide HB) (unhide HB4)))⟩
        · have hz' : (((L5.cntS (L5.sec 2 h.al X) : Nat) : Int) == 0) = false := beq_eq_false_iff_ne.2 (by have : ¬ L5.cntS (L5.sec 2 h.al X) = 0 := hz; omega)
          have HZ := hide hz
          clear hz
          obtain ⟨C, hC⟩ : ∃ y, y = ((L5.cntS (L5.sec 2 h.al X) : Nat) : Int) := ⟨_, rfl⟩
          rw [← hC] at hz'
          have HCE := hide hC
          clear hC
          go_wp2_with fail
          go_region_held3 (fun w' => w'.cell? ⟨q, 1, none⟩ = some (.pointer (some ⟨a, 0, none⟩)) ∧ w'.cell? ⟨gb, k, none⟩ = some (.int .i64 X))
            (first | assumption | exact ⟨c1, hcell⟩ | exact ⟨d1, dcell⟩)
            (first
              | (go_at_call 32; go_split_ands; refine (L5.rcount_any X (unhide HI) _ (unhide HA)).mono ?_; rintro e w4 ⟨rfl, hb4⟩; rw [← unhide HCE]; have d1 := (hb4.cell (World.block_lt_of_cell? _ _ (show wr.drew.cell? _ = _ from c1))).trans c1; have dcell := (hb4.cell (World.block_lt_of_cell? _ _ (show wr.drew.cell? _ = _ from hcell))).trans hcell; have HB4 := hide (below_then (below_drew wr) hb4); clear hb4))
          all_goals
            clear c1 hcell
            go_wp2
            go_roundw
            case rel =>
              refine ⟨k + 1, by omega, by go_num, fun j hj hjk => ?_, below_then (unhide HB) (unhide HB4)⟩
              by_cases e : j = k
              · subst e
                rw [← unhide HXE]
                exact unhide HZ
              · exact unhide HC j hj (by omega)
            case measure => simp [intOf]; omega
      · obtain rfl : k = ks.length := by omega
        clear hlt
        have hno : ks.any (fun k => decide (cntL h.al k = 0)) = false := any_no (fun j hj => by simpa using unhide HC j hj hj)
        have HNO := hide hno
        clear hno HC
        go_wp2
        go_loopw [10] (fun t wr => ∃ k : Nat, k ≤ ks.length ∧ t = .int .i64 (k : Int) ∧ (∀ j (hj : j < ks.length), j < k → ¬ 5000 < cntL h.al ks[j] + ks.count ks[j]) ∧ Below w3.heap.size w3 wr) (fun t _ => ks.length - (intOf t).toNat)
        case atStart => exact ⟨0, Nat.zero_le _, rfl, (fun j hj h => absurd h (Nat.not_lt_zero _)), unhide HB⟩
        case round =>
          clear HB
          obtain ⟨k, hk, rfl, hc0, hb⟩ := hrel
          have HC := hide hc0
          have HB := hide hb
          clear hc0 hb
          by_cases hlt : k < ks.length
          · obtain ⟨gb, rfl, hcell⟩ := ((unhide HV).grow (unhide HB)).at k hlt
            have hx := unhide HPX ks[k] (List.getElem_mem hlt)
            have hI : L5.I64 ks[k] := by unfold L5.I64; omega
            have HI := hide hI
            have hlt' : (k : Int) < (ks.length : Int) := by omega
            have hL := unhide HLEN
            obtain ⟨X, hX⟩ : ∃ y, y = ks[k] := ⟨_, rfl⟩
            rw [← hX] at hcell HI
            have HXE := hide hX
            clear hx hI hX hcell
            go_wp2_with fail
            go_loopw [11, 12] (fun s t wr => ∃ m : Nat, m ≤ ks.length ∧ s = .int .i64 (((ks.take m).count X : Nat) : Int) ∧ t = .int .i64 (m : Int) ∧ Below w3.heap.size w3 wr) (fun s t _ => ks.length - (intOf t).toNat)
            case atStart => exact ⟨0, Nat.zero_le _, rfl, rfl, unhide HB⟩
            case round =>
              clear HB
              obtain ⟨m, hm, rfl, rfl, hb⟩ := hrel
              have HB := hide hb
              clear hb
              obtain ⟨gb2, e2, hck⟩ := ((unhide HV).grow (unhide HB)).at k hlt
              cases e2
              rw [← unhide HXE] at hck
              have hct : (ks.take m).count X ≤ 1100 := by have := List.count_le_length (a := X) (l := ks.take m); rw [List.length_take] at this; omega
              by_cases hlm : m < ks.length
              · obtain ⟨gb3, e3, hcm⟩ := ((unhide HV).grow (unhide HB)).at m hlm
                cases e3
                have hlm' : (m : Int) < (ks.length : Int) := by omega
                have HTS := hide (take_succ_count ks m hlm X)
                obtain ⟨Z, hZ⟩ : ∃ y, y = ks[m] := ⟨_, rfl⟩
                rw [← hZ] at hcm HTS
                clear hZ
                generalize hTT : (ks.take m).count X = T at *
                have HTT := hide hTT
                clear hTT
                by_cases hXm : Z = X
                · have HT1 : Hid ((ks.take (m + 1)).count X = T + 1) := by
                    have := unhide HTS
                    rw [if_pos hXm] at this
                    exact this
                  clear HTS
                  subst hXm
                  go_wp2_with fail
                  go_region
                  go_wp2
                  go_roundw
                  case rel =>
                    refine ⟨m + 1, by omega, ?_, by go_num, below_then (unhide HB) (below_drew _)⟩
                    rw [unhide HT1]
                    go_num
                  case measure => simp [intOf]; omega
                · have hXm' : (Z == X) = false := beq_eq_false_iff_ne.2 hXm
                  have HT1 : Hid ((ks.take (m + 1)).count X = T) := by
                    have := unhide HTS
                    rw [if_neg hXm] at this
                    exact this
                  clear HTS
                  go_wp2_with fail
                  go_region
                  go_wp2
                  go_roundw
                  case rel =>
                    refine ⟨m + 1, by omega, ?_, by go_num, below_then (unhide HB) (below_drew _)⟩
                    rw [unhide HT1]
                  case measure => simp [intOf]; omega
              · obtain rfl : m = ks.length := by omega
                clear hlm
                rw [List.take_length] at hct ⊢
                have c1 := ((unhide HH3).grow (unhide HB)).cell1
                have HA : Hid (L5.RefAt wr.drew a g 2 h.al) := ((unhide HH3).grow (unhide HB)).al.grow (below_drew wr)
                have hcn : L5.cntS (L5.sec 2 h.al X) ≤ 5000 := by
                  have hs := (unhide HA).ok.sec X
                  revert hs
                  cases L5.sec 2 h.al X with
                  | none => intro _; exact Nat.zero_le _
                  | some y => intro hs; exact hs.1
                obtain ⟨C, hC⟩ : ∃ y, y = L5.cntS (L5.sec 2 h.al X) := ⟨_, rfl⟩
                obtain ⟨T, hTq⟩ : ∃ y, y = ks.count X := ⟨_, rfl⟩
                rw [← hC] at hcn
                rw [← hTq] at hct ⊢
                have HCE := hide hC
                have HTE := hide hTq
                have hwrap : IntKind.i64.wrap ((C : Int) + (T : Int)) = (C : Int) + (T : Int) := by rw [IntKind.wrap_i64]; omega
                clear hC hTq
                go_wp2_with fail
                go_region_held3 (fun w' => w'.cell? ⟨q, 1, none⟩ = some (.pointer (some ⟨a, 0, none⟩)) ∧ w'.cell? ⟨gb, k, none⟩ = some (.int .i64 X))
                  (first | assumption | exact ⟨c1, hck⟩ | exact ⟨d1, dcell⟩)
                  (first
                    | (go_at_call 32; go_split_ands; refine (L5.rcount_any X (unhide HI) _ (unhide HA)).mono ?_; rintro e w4 ⟨rfl, hb4⟩; rw [← unhide HCE]; have d1 := (hb4.cell (World.block_lt_of_cell? _ _ (show wr.drew.cell? _ = _ from c1))).trans c1; have dcell := (hb4.cell (World.block_lt_of_cell? _ _ (show wr.drew.cell? _ = _ from hck))).trans hck; have HB4 := hide (below_then (below_drew wr) hb4); clear hb4))
                all_goals
                  clear c1 hck
                  by_cases hbig : 5000 < (C : Int) + (T : Int)
                  · go_wp2
                    go_ret2
                    have hD : putR h n = (0, 52, h) := by
                      have hm : mayE h.al (places n) = 52 := by
                        unfold mayE
                        rw [← unhide HKS, unhide HNO, if_neg (by decide), any_of hlt (by
                          rw [← unhide HXE, ← unhide HTE]
                          have e : cntL h.al X = C := (unhide HCE).symm
                          rw [e]
                          have : 5000 < C + T := by omega
                          simpa using this), if_pos rfl]
                      unfold putR
                      rw [if_neg (fun hn => hn (unhide HE)), hm, if_pos (by decide)]
                    rw [hD]
                    exact ⟨rfl, (unhide HH0).stays (below_then (unhide HB3) (below_then (unhide HB) (unhide HB4)))⟩
                  · go_wp2
                    go_roundw
                    case rel =>
                      refine ⟨k + 1, by omega, by go_num, fun j hj hjk => ?_, below_then (unhide HB) (unhide HB4)⟩
                      by_cases e : j = k
                      · subst e
                        rw [← unhide HXE, ← unhide HTE]
                        have e : cntL h.al X = C := (unhide HCE).symm
                        rw [e]
                        omega
                      · exact unhide HC j hj (by omega)
                    case measure => simp [intOf]; omega
          · obtain rfl : k = ks.length := by omega
            clear hlt
            have hM : mayE h.al (places n) = 0 := by
              unfold mayE
              rw [← unhide HKS, unhide HNO, if_neg (by decide), any_no (fun j hj => by simpa using unhide HC j hj hj), if_neg (by decide)]
            have HM := hide hM
            have R5 := (unhide HH3).grow (unhide HB)
            have hgn := R5.gen
            have hG64 : L5.I64 h.gen := by unfold L5.I64; omega
            have HG64 := hide hG64
            have HG0 := hide hgn
            have c1 := R5.cell1
            have c2 := R5.cell2
            obtain ⟨z0, z1, z2⟩ := unhide HQS
            have y0 := ((unhide HB).cell (World.block_lt_of_cell? _ _ z0)).trans z0
            have y1 := ((unhide HB).cell (World.block_lt_of_cell? _ _ z1)).trans z1
            have y2 := ((unhide HB).cell (World.block_lt_of_cell? _ _ z2)).trans z2
            have hBF : B ∉ rfoot q a g fr := fun hx => by
              have := (unhide HH0).lt B hx
              have := unhide HBE
              omega
            have HBF := hide hBF
            have HH5 : Hid (RhAt wr.drew q r h a g fr kv) := R5.grow (below_drew wr)
            have HV5 : Hid (Ints wr.drew (.slice a0 ks.length cap0) ks) := ((unhide HV).grow (unhide HB)).grow (below_drew wr)
            have HB5 : Hid (Below w.heap.size w wr.drew) := below_then (below_then (unhide HB3) (unhide HB)) (below_drew wr)
            have HY5 := hide (And.intro y0 (And.intro y1 y2))
            clear hM R5 hgn hG64 z0 z1 z2 y0 y1 y2 hBF HNO HC HB HB3 HV HH3 HQS
            go_wp2_with fail
            go_region_held3 (fun w' => w'.cell? ⟨q, 1, none⟩ = some (.pointer (some ⟨a, 0, none⟩)) ∧ w'.cell? ⟨q, 2, none⟩ = some (.int .i64 h.gen))
              (first | assumption | exact ⟨c1, c2⟩ | exact ⟨d1, d2⟩)
              (first
                | (go_at_call 33; go_split_ands; refine (L5.rtake_any h.gen (unhide HG64) _ (unhide HH5).al).mono ?_; rintro e w6 ⟨rfl, ha6, hm6⟩; have R6 := (unhide HH5).alloc hm6 ha6 (length_take _ _); have d1 := R6.cell1; have d2 : w6.cell? ⟨q, 2, none⟩ = some (.int .i64 h.gen) := R6.cell2; have HH6 := hide R6; have HM6 := hide hm6; clear R6 ha6 hm6))
            clear c1 c2 d1 d2
            by_cases hT : L5.takeE h.al = 0
            · obtain ⟨i, hi, hn⟩ := take_here hT
              have hin := (take_at hi h.gen).1
              have hfew := (unhide HH6).al.ok.few
              have hi4 : 2 + i < 4096 := by unfold L5.In at hin; rw [length_take] at hfew; omega
              have HI4 := hide hi4
              have HTE := hide hT
              rw [hT]
              obtain ⟨N, hN⟩ : ∃ x, x = L5.takeN 2 h.al := ⟨_, rfl⟩
              rw [← hN]
              have HNE := hide hN
              have HNI : Hid (N = ((2 + i : Nat) : Int)) := by show N = _; rw [hN, hn]; omega
              clear hi hn hin hfew hi4 hT hN
              obtain ⟨y0, y1, y2⟩ := unhide HY5
              have y0' := cellsM (unhide HM6) (show wr.drew.cell? _ = _ from y0) (fun hx => unhide HBF (by simp at hx; simp [rfoot, hx]))
              have y1' := cellsM (unhide HM6) (show wr.drew.cell? _ = _ from y1) (fun hx => unhide HBF (by simp at hx; simp [rfoot, hx]))
              have y2' := cellsM (unhide HM6) (show wr.drew.cell? _ = _ from y2) (fun hx => unhide HBF (by simp at hx; simp [rfoot, hx]))
              have c2 : w6.cell? ⟨q, 2, none⟩ = some (.int .i64 h.gen) := (unhide HH6).cell2
              have hkn : (if n.leaf then (1 : Int) else 2) = ((kindN n : Nat) : Int) := by unfold kindN; split <;> rfl
              have HKN := hide hkn
              have HH7 : Hid (RhAt w6.drew q r { h with al := L5.takeM h.al h.gen } a g fr kv) := (unhide HH6).grow (below_drew w6)
              have HM7 : Hid (Moves (rfoot q a g fr) w w6.drew) := ((L5.Moves.of_below _ (unhide HB5)).then ((unhide HM6).mono (fun x hx => .inl (by simp at hx; simp [rfoot, hx])))).then (L5.Moves.of_below _ (below_drew w6))
              have HV7 : Hid (Ints w6.drew (.slice a0 ks.length cap0) ks) := ((unhide HV5).same (fun b hb => (unhide HM6).block b ((unhide HV5).lt b hb) (fun hx => (unhide HH5).row (unhide HV5) hb (by simp at hx; simp [rfoot, hx])))).grow (below_drew w6)
              have hSX : (L4.wrapR ((kindN n : Nat) : Int) h.gen Y).1 = sectorN h.gen n := by unfold sectorN; rw [unhide HY]
              have HSX := hide hSX
              clear y0 y1 y2 hkn hSX HH5 HH6 HM6 HV5 HB5 HY5
              go_wp2_with fail
              go_region_held3 (fun w' => w'.cell? ⟨q, 2, none⟩ = some (.int .i64 h.gen) ∧ w'.cell? ⟨B, 0, none⟩ = some (.bool n.leaf) ∧ w'.cell? ⟨B, 1, none⟩ = some (.slice ai n.its.length ci) ∧ w'.cell? ⟨B, 2, none⟩ = some (.slice ak n.kds.length ck))
                (first | assumption | exact ⟨c2, y0', y1', y2'⟩ | exact ⟨d2, s0, s1, s2⟩ | exact unhide HS9)
                (first
                  | (go_at_call 35; go_split_ands; refine (rkind_any n.leaf _ _ _).mono ?_; rintro e w8 ⟨rfl, hb8⟩; rw [unhide HKN]; have R8 := (unhide HH7).grow hb8; have d2 : w8.cell? ⟨q, 2, none⟩ = some (.int .i64 h.gen) := R8.cell2; have s0 := (hb8.cell (World.block_lt_of_cell? _ _ (show w6.drew.cell? _ = _ from y0'))).trans y0'; have s1 := (hb8.cell (World.block_lt_of_cell? _ _ (show w6.drew.cell? _ = _ from y1'))).trans y1'; have s2 := (hb8.cell (World.block_lt_of_cell? _ _ (show w6.drew.cell? _ = _ from y2'))).trans y2'; have HH8 := hide R8; have HB8 := hide hb8; clear R8 hb8)
                  | (go_at_call 34; go_split_ands; refine (L4.rwrap_any ((kindN n : Nat) : Int) h.gen Y _ (unhide HH8).tab).mono ?_; rintro e w9 ⟨rfl, hb9⟩; have HS9 := hide (And.intro ((hb9.cell (World.block_lt_of_cell? _ _ d2)).trans d2) (And.intro ((hb9.cell (World.block_lt_of_cell? _ _ s0)).trans s0) (And.intro ((hb9.cell (World.block_lt_of_cell? _ _ s1)).trans s1) ((hb9.cell (World.block_lt_of_cell? _ _ s2)).trans s2)))); rw [unhide HSX]; have HB9 := hide (below_then (unhide HB8) hb9); clear hb9))
              clear c2 d2 s0 s1 s2 y0' y1' y2' HS9
              have R9 := (unhide HH7).grow (unhide HB9)
              have c0 := R9.cell0
              have HH9 := hide R9
              have HM9 := hide ((unhide HM7).then (L5.Moves.of_below _ (unhide HB9)))
              have HV9 := hide ((unhide HV7).grow (unhide HB9))
              clear R9 HH7 HH8 HB8 HM7 HV7 HB9
              obtain ⟨S, hS⟩ : ∃ x, x = sectorN h.gen n := ⟨_, rfl⟩
              rw [← hS]
              have HSE := hide hS
              clear hS
              go_wp2_with fail
              refine (L3.rwrite_any N S fr w9 (unhide HH9).dk (unhide HOP)).mono ?_
              rintro e w10 ⟨rfl, ht⟩
              obtain ⟨fr', R10, hm10, hf10⟩ := (unhide HH9).disk ht (old_write _ _ _)
              have HM10 : Hid (Moves (rfoot q a g fr) w w10) := (unhide HM9).then (hm10.mono (fun x hx => .inl (by simp [rfoot, hx])))
              have HF10 : Hid (∀ x ∈ rfoot q a g fr', x ∈ rfoot q a g fr ∨ w.heap.size ≤ x) := by
                intro x hx
                simp only [rfoot, List.mem_cons] at hx ⊢
                rcases hx with h4 | h4 | h4 | h4
                · exact .inl (.inl h4)
                · exact .inl (.inr (.inl h4))
                · exact .inl (.inr (.inr (.inl h4)))
                · rcases hf10 x h4 with h5 | h5
                  · exact .inl (.inr (.inr (.inr h5)))
                  · exact .inr (Nat.le_trans (unhide HM9).size h5)
              have HV10 : Hid (Ints w10 (.slice a0 ks.length cap0) ks) := (unhide HV9).same (fun b hb => hm10.block b ((unhide HV9).lt b hb) (fun hx => (unhide HH9).row (unhide HV9) hb (by simp [rfoot, hx])))
              have c1 := R10.cell1
              have c2 : w10.cell? ⟨q, 2, none⟩ = some (.int .i64 h.gen) := R10.cell2
              have HH10 := hide R10
              clear ht R10 hm10 hf10 HH9 HM9 HV9 c0
              by_cases hW : L3.writeE h.dk N S = 0
              · rw [hW]
                have hst : storeR h (sectorN h.gen n) = (N, 0, { h with dk := L3.writeM h.dk N S, al := L5.takeM h.al h.gen }) := by
                  unfold storeR
                  rw [← unhide HSE, ← unhide HNE, if_neg (fun hn => hn (unhide HTE)), if_neg (fun hn => hn hW)]
                have hD : putR h n = (N, 0, { dk := L3.writeM h.dk N S, al := holdAll (L5.takeM h.al h.gen) ks, gen := h.gen, kids := setK h.kids (2 + i) ks }) := by
                  unfold putR
                  have e : N.toNat = 2 + i := by rw [unhide HNI]; exact Int.toNat_natCast _
                  rw [if_neg (fun hn => hn (unhide HE)), if_neg (fun hn => hn (unhide HM)), hst, if_neg (by simp)]
                  simp only [e, ← unhide HKS]
                have HD := hide hD
                clear hW hst hD c1 c2
                go_wp2_with fail
                go_loopw [17] (fun t wr => ∃ k : Nat, k ≤ ks.length ∧ t = .int .i64 (k : Int) ∧ RhAt wr q r { dk := L3.writeM h.dk N S, al := holdAll (L5.takeM h.al h.gen) (ks.take k), gen := h.gen, kids := h.kids } a g fr' kv ∧ Moves (rfoot q a g fr) w wr ∧ Ints wr (.slice a0 ks.length cap0) ks) (fun t _ => ks.length - (intOf t).toNat)
                case atStart => exact ⟨0, Nat.zero_le _, rfl, unhide HH10, unhide HM10, unhide HV10⟩
                case round =>
                  clear HH10 HM10 HV10
                  obtain ⟨k, hk, rfl, hR, hM, hV⟩ := hrel
                  have hL := unhide HLEN
                  by_cases hlt : k < ks.length
                  · obtain ⟨gb, rfl, hcell⟩ := hV.at k hlt
                    have hx := unhide HPX _ (List.getElem_mem hlt)
                    have hI : L5.I64 ks[k] := by unfold L5.I64; omega
                    have hlt' : (k : Int) < (ks.length : Int) := by omega
                    have c1 := hR.cell1
                    have HR0 := hide hR
                    have HR : Hid (RhAt wr.drew q r { dk := L3.writeM h.dk N S, al := holdAll (L5.takeM h.al h.gen) (ks.take k), gen := h.gen, kids := h.kids } a g fr' kv) := hR.grow (below_drew wr)
                    have HI := hide hI
                    have HMV := hide hM
                    have HVV := hide hV
                    obtain ⟨X, hX⟩ : ∃ y, y = ks[k] := ⟨_, rfl⟩
                    rw [← hX] at hcell HI
                    have HXE := hide hX
                    clear hR hI hM hV hx hX
                    go_wp2_with fail
                    go_region_held3 (fun w' => w'.cell? ⟨q, 1, none⟩ = some (.pointer (some ⟨a, 0, none⟩)) ∧ w'.cell? ⟨gb, k, none⟩ = some (.int .i64 X))
                      (first | assumption | exact ⟨c1, hcell⟩ | exact ⟨d1, dcell⟩)
                      (first
                        | (go_at_call 38; go_split_ands; refine (L5.rhold_any X _ (unhide HR).al (unhide HI)).mono ?_; rintro e w11 ⟨rfl, ha, hm⟩; have R11 := (unhide HR).alloc hm ha (length_hold _ _); have d1 := R11.cell1; have dcell := cellsM hm (show wr.drew.cell? _ = _ from hcell) (fun hx => (unhide HR0).row (unhide HVV) rfl (by simp at hx; simp [rfoot, hx])); have HX11 := hide (And.intro R11 hm); clear ha hm R11))
                    all_goals
                      clear c1 hcell
                      go_wp2
                      go_roundw
                      case rel =>
                        obtain ⟨R11, hm⟩ := unhide HX11
                        have e1 : holdAll (L5.takeM h.al h.gen) (ks.take (k + 1)) = L5.holdM 2 (holdAll (L5.takeM h.al h.gen) (ks.take k)) X := by
                          rw [List.take_add_one, List.getElem?_eq_getElem hlt, ← unhide HXE]
                          unfold holdAll
                          rw [List.foldl_append]
                          rfl
                        refine ⟨k + 1, by omega, by go_num, ?_, ?_, ?_⟩
                        · rw [e1]
                          exact R11
                        · exact ((unhide HMV).then (L5.Moves.of_below _ (below_drew wr))).then (hm.mono (fun x hx => .inl (by simp at hx; simp [rfoot, hx])))
                        · exact ((unhide HVV).grow (below_drew wr)).same (fun b hb => hm.block b ((unhide HVV).lt b hb) (fun hx => (unhide HR0).row (unhide HVV) hb (by simp at hx; simp [rfoot, hx])))
                      case measure => simp [intOf]; omega
                  · obtain rfl : k = ks.length := by omega
                    rw [List.take_length] at hR
                    have hlt' : ¬ (ks.length : Int) < (ks.length : Int) := by omega
                    obtain ⟨v0, hv0, _⟩ := hR.kidAt (unhide HI4)
                    have ck0 := hR.cellK hv0
                    have fk := hR.free (3 + (2 + i))
                    have HR := hide hR
                    have HMV := hide hM
                    have HVV := hide hV
                    have hN0 : (0 : Int) ≤ N := by rw [unhide HNI]; omega
                    have hN1 : N < 4096 := by rw [unhide HNI]; have := unhide HI4; omega
                    have hNt : N.toNat = 2 + i := by rw [unhide HNI]; exact Int.toNat_natCast _
                    clear hR hM hV hv0 hlt
                    go_wp2
                    go_ret2
                    rw [unhide HD]
                    have hK := (unhide HR).setK (i := 2 + i) (unhide HVV)
                    refine ⟨rfl, _, ⟨r, a, g, fr', _, hK, rfl⟩, (unhide HMV).then (L5.Moves.set _ _ _ _ (by simp [rfoot])), unhide HF10⟩
              · have hst : storeR h (sectorN h.gen n) = (0, L3.writeE h.dk N S, { h with dk := L3.writeM h.dk N S, al := L5.dropM 2 (L5.takeM h.al h.gen) N h.gen }) := by
                  unfold storeR
                  rw [← unhide HSE, ← unhide HNE, if_neg (fun hn => hn (unhide HTE)), if_pos hW]
                have hD : putR h n = (0, L3.writeE h.dk N S, { h with dk := L3.writeM h.dk N S, al := L5.dropM 2 (L5.takeM h.al h.gen) N h.gen }) := by
                  unfold putR
                  rw [if_neg (fun hn => hn (unhide HE)), if_neg (fun hn => hn (unhide HM)), hst, if_pos hW]
                have h1 : (L3.writeE h.dk N S == 0) = false := beq_eq_false_iff_ne.2 hW
                have h2 : (L3.writeE h.dk N S != 0) = true := bne_iff_ne.2 hW
                obtain ⟨E, hEE⟩ : ∃ x, x = L3.writeE h.dk N S := ⟨_, rfl⟩
                rw [← hEE] at h1 h2 hD ⊢
                have HD := hide hD
                have hI : L5.I64 N := by rw [unhide HNI]; unfold L5.I64; have := unhide HI4; omega
                have HI := hide hI
                have HH11 : Hid (RhAt w10.drew q r { h with dk := L3.writeM h.dk N S, al := L5.takeM h.al h.gen } a g fr' kv) := (unhide HH10).grow (below_drew w10)
                clear hW hst hEE hD hI
                go_wp2_with fail
                go_region_held3 (fun w' => w'.cell? ⟨q, 1, none⟩ = some (.pointer (some ⟨a, 0, none⟩)) ∧ w'.cell? ⟨q, 2, none⟩ = some (.int .i64 h.gen))
                  (first | assumption | exact ⟨c1, c2⟩ | exact ⟨d1, d2⟩)
                  (first
                    | (go_at_call 37; go_split_ands; refine (L5.rdrop_any N h.gen _ (unhide HH11).al (unhide HI) (unhide HG64)).mono ?_; rintro e w12 ⟨rfl, ha, hm⟩; have R12 := (unhide HH11).alloc hm ha (length_drop _ _ _); have d1 := R12.cell1; have d2 : w12.cell? ⟨q, 2, none⟩ = some (.int .i64 h.gen) := R12.cell2; have HX12 := hide (And.intro R12 hm); clear R12 ha hm))
                all_goals
                  clear c1 c2 d1 d2
                  go_wp2
                  go_ret2
                  rw [unhide HD]
                  obtain ⟨R12, hm⟩ := unhide HX12
                  refine ⟨rfl, _, ⟨r, a, g, fr', kv, R12, rfl⟩, ((unhide HM10).then (L5.Moves.of_below _ (below_drew w10))).then (hm.mono (fun x hx => .inl (by simp at hx; simp [rfoot, hx]))), unhide HF10⟩
            · have hD : putR h n = (0, L5.takeE h.al, h) := by
                have hs : storeR h (sectorN h.gen n) = (0, L5.takeE h.al, h) := by unfold storeR; rw [if_pos hT]
                unfold putR
                rw [if_neg (fun hn => hn (unhide HE)), if_neg (fun hn => hn (unhide HM)), hs, if_pos hT]
              have hTM : L5.takeM h.al h.gen = h.al := by
                unfold L5.takeE at hT
                unfold L5.takeM
                cases hi : L5.takeI h.al with
                | none => rfl
                | some i => rw [hi] at hT; exact absurd rfl hT
              have h1 : (L5.takeE h.al == 0) = false := beq_eq_false_iff_ne.2 hT
              have h2 : (L5.takeE h.al != 0) = true := bne_iff_ne.2 hT
              obtain ⟨E, hEE⟩ : ∃ x, x = L5.takeE h.al := ⟨_, rfl⟩
              rw [← hEE] at h1 h2 hD ⊢
              have HD := hide hD
              have HTM := hide hTM
              clear hT hEE hD hTM
              go_wp2
              go_ret2
              rw [unhide HD]
              have h6 := unhide HH6
              rw [unhide HTM] at h6
              refine ⟨rfl, _, ⟨r, a, g, fr, kv, h6, rfl⟩, (L5.Moves.of_below _ (unhide HB5)).then ((unhide HM6).mono (fun x hx => .inl (by simp at hx; simp [rfoot, hx]))), fun x hx => .inl hx⟩
  · have hD : putR h n = (0, ((L6.encodeN n).2 : Int), h) := by unfold putR; rw [if_pos hE]
    have hE1 : (((L6.encodeN n).2 : Int) == 0) = false := beq_eq_false_iff_ne.2 (by omega)
    have hE2 : (((L6.encodeN n).2 : Int) != 0) = true := bne_iff_ne.2 (by omega)
    obtain ⟨E, hEE⟩ : ∃ x : Int, x = ((L6.encodeN n).2 : Int) := ⟨_, rfl⟩
    rw [← hEE] at hE1 hE2 hD
    have HD := hide hD
    have HEE := hide hEE
    clear hE hEE hD hB
    go_enter Tryz.func11, Tryz.ntmps11
    go_wp2_with (go_at_call 30; refine (L6.refEncode_any n ai ak ci ck _ (unhide HN) (unhide HIL) (unhide HKL)).mono ?_; rintro x w2 ⟨rfl, hb2⟩; rw [← unhide HEE]; have HB2 := hide (below_then (unhide HB) hb2); clear hb2)
    go_ret2
    rw [unhide HD]
    exact ⟨rfl, (unhide HH0).stays (unhide HB2)⟩
end Go.Proofs.YtdelobaiicoogaaGreatDoor
