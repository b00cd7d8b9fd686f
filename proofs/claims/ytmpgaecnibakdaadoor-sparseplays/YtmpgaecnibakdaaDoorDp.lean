/- The document's Punch. -/
import Derived.Test.YtmpgaecnibakdaaDoorPu
namespace Go.Proofs.YtmpgaecnibakdaaDoor
open Go.ChangeShapes Go.WideShapes Go.ChangeAt Go.RowKit
attribute [local go_sem] Oper.semAt_some

theorem punR_snoc (L : List Pc) (p : Pc) (size off n : Int) : punR (L ++ [p]) size off n = punR L size off n ++ (if leftB size off n p = true then [(p.1, punB off n p)] else []) := by
  unfold punR
  rw [List.filterMap_append]
  congr 1
  by_cases h : leftB size off n p = true
  · rw [if_pos h]; simp [h]
  · rw [if_neg h]; simp [h]
theorem punR_len (L : List Pc) (size off n : Int) : (punR L size off n).length ≤ L.length := List.length_filterMap_le _ _
def leftJ (ix size off n : Int) (j : Nat) : Bool := (List.range j).any fun (k : Nat) => decide (ix * 64 + (k : Int) < size) && !(decide (off ≤ ix * 64 + (k : Int)) && decide (ix * 64 + (k : Int) - off < n))
theorem leftJ_succ (ix size off n : Int) (j : Nat) : leftJ ix size off n (j + 1) = (leftJ ix size off n j || (decide (ix * 64 + (j : Int) < size) && !(decide (off ≤ ix * 64 + (j : Int)) && decide (ix * 64 + (j : Int) - off < n)))) := by
  unfold leftJ
  rw [List.range_succ, List.any_append]
  simp
theorem leftJ_in {ix size off n : Int} {j : Nat} (h1 : off ≤ ix * 64 + (j : Int)) (h2 : ix * 64 + (j : Int) - off < n) : leftJ ix size off n (j + 1) = leftJ ix size off n j := by
  rw [leftJ_succ, decide_eq_true h1, decide_eq_true h2]
  simp
theorem leftJ_beyond {ix size off n : Int} {j : Nat} (h1 : ¬ ix * 64 + (j : Int) < size) : leftJ ix size off n (j + 1) = leftJ ix size off n j := by
  rw [leftJ_succ, decide_eq_false h1]
  simp
theorem leftJ_out {ix size off n : Int} {j : Nat} (h1 : ix * 64 + (j : Int) < size) (h2 : ¬ (off ≤ ix * 64 + (j : Int) ∧ ix * 64 + (j : Int) - off < n)) : leftJ ix size off n (j + 1) = true := by
  rw [leftJ_succ, decide_eq_true h1, ← Bool.decide_and, decide_eq_false h2]
  simp

set_option maxHeartbeats 8000000 in
set_option maxRecDepth 10000 in
theorem punchD_any (a : Option Addr) (cap : Nat) (l : List Pc) (size off n : Int) (w : World) (hr : Ps w a l) (hl : l.length ≤ 9000) (hd : ∀ p ∈ l, p.2.length ≤ 10000) (o1 : off ≤ 9223372036854775807) (n1 : n ≤ 9223372036854775807) :
    Calls Tryd.prog 22 #[.slice a l.length cap, .int .i64 size, .int .i64 off, .int .i64 n] w fun e w' => Ans2 w.heap.size (punchA l size off n) e w' ∧ Below w.heap.size w w' := by
  have HC := hide (chkD_any a cap l size w hr (by omega) (fun p hp => by have := hd p hp; omega))
  by_cases hc : chkR l size = 0
  case neg =>
    rw [punchA_form hc]
    have h21 : chkR l size = 21 := (chk_two l size).resolve_left hc
    rw [h21] at HC
    clear hr hc h21
    go_enter Tryd.func22, Tryd.ntmps22
    go_wp2_with fail
    refine (unhide HC).mono ?_
    rintro e w1 ⟨rfl, hb1⟩
    have HB1 := hide hb1
    clear hb1 HC
    go_wp2
    go_ret2
    exact ⟨⟨_, rfl, OwnP.nil _ _⟩, unhide HB1⟩
  have hri := right_chk hc
  rw [hc] at HC
  by_cases ha : off < 0 ∨ n < 0
  · rw [punchA_arg hc ha]
    clear hri hc hr
    by_cases a1 : off < 0
    · clear ha
      go_enter Tryd.func22, Tryd.ntmps22
      go_wp2_with fail
      refine (unhide HC).mono ?_
      rintro e w1 ⟨rfl, hb1⟩
      have HB1 := hide hb1
      clear hb1 HC
      go_wp2
      go_ret2
      exact ⟨⟨_, rfl, OwnP.nil _ _⟩, unhide HB1⟩
    · have a2 : n < 0 := by omega
      clear ha
      go_enter Tryd.func22, Tryd.ntmps22
      go_wp2_with fail
      refine (unhide HC).mono ?_
      rintro e w1 ⟨rfl, hb1⟩
      have HB1 := hide hb1
      clear hb1 HC
      go_wp2
      go_ret2
      exact ⟨⟨_, rfl, OwnP.nil _ _⟩, unhide HB1⟩
  rw [punchA_ok hc ha]
  have a1 : ¬ off < 0 := by omega
  have a2 : ¬ n < 0 := by omega
  have s1 := hri.hi
  have HOK := hide hri.ok
  have HR := hide (fun W (hW : Below w.heap.size w W) => hr.below hW)
  obtain ⟨LR, hLR⟩ : ∃ LR, LR = punR l size off n := ⟨_, rfl⟩
  have HLR := hide hLR
  rw [← hLR]
  clear hri hc hr hLR ha
  go_enter Tryd.func22, Tryd.ntmps22
  go_wp2_with fail
  refine (unhide HC).mono ?_
  rintro e w1 ⟨rfl, hb1⟩
  have HB1 := hide hb1
  clear hb1 HC
  go_wp2
  go_loopw [11, 12] (fun r s wr => ∃ i : Nat, i ≤ l.length ∧ s = .int .i64 i ∧ OwnP w.heap.size wr r (punR (l.take i) size off n) ∧ Below w.heap.size w wr) (fun _ s _ => l.length - (intOf s).toNat)
  case atStart => exact ⟨0, Nat.zero_le _, rfl, OwnP.nil _ _, unhide HB1⟩
  case round =>
    obtain ⟨i, hi, rfl, ho, hb⟩ := hrel
    have HO := hide ho
    have HB := hide hb
    have HBS := hide hb.size
    by_cases hlt : i < l.length
    · obtain ⟨⟨ix, da⟩, hx⟩ := get_some hlt
      obtain ⟨b, om, rfl, c0, c1, c2⟩ := (unhide HR _ hb).get hx
      have hlt' : (i : Int) < (l.length : Int) := by omega
      obtain ⟨o1', o2, o3, o4⟩ := unhide HOK _ (List.mem_of_getElem? hx)
      simp only at o1' o2 o3
      have hts := take_snoc hx
      have hsn := punR_snoc (l.take i) (ix, da) size off n
      rw [← hts] at hsn
      have hln := punR_len (l.take i) size off n
      rw [List.length_take] at hln
      have m1 : 0 ≤ ix * 64 := by omega
      have m2 : ix * 64 ≤ 4611686018427387904 := by omega
      have HLT := hide hlt
      clear hx ho hb o4 HB1
      have HJ : Hid (leftB size off n (ix, da) = leftJ ix size off n 64) := rfl
      rw [unhide HJ] at hsn
      have HPB : Hid (punB off n (ix, da) = rowOf 64 fun k => if off ≤ ix * 64 + k ∧ ix * 64 + k - off < n then 0 else da.getD k 0) := rfl
      rw [unhide HPB] at hsn
      obtain ⟨R, hR⟩ : ∃ R, R = punR (l.take i) size off n := ⟨_, rfl⟩
      rw [← hR] at hsn hln HO
      obtain ⟨F, hF⟩ : ∃ F : Nat → UInt8, F = fun (k : Nat) => if off ≤ ix * 64 + (k : Int) ∧ ix * 64 + (k : Int) - off < n then 0 else da.getD k 0 := ⟨_, rfl⟩
      rw [← hF] at hsn
      have HF := hide hF
      have HSN := hide hsn
      have HBLK := hide ((unhide HR w (Below.refl _ _)).blk (by omega) rfl)
      have HLN : Hid (R.length ≤ 9000) := by rw [hide_eq]; omega
      obtain ⟨a0, cap0, rfl⟩ := (unhide HO).form
      have hsz : (tx da).size = 64 := by rw [tx_size]; exact o3
      have HRB := hide (fun g hg => World.ownsRow.lt (unhide HO) g hg)
      clear hR hF hsn hln hts hlt
      go_wp2
      go_loopw [13, 14, 15] (fun r t s wq => ∃ j : Nat, j ≤ 64 ∧ s = .int .i64 j ∧ t = .bool (leftJ ix size off n j) ∧ OwnB wr.heap.size wq r (rowOf j F) ∧ Below wr.heap.size wr wq) (fun _ _ s _ => 64 - (intOf s).toNat)
      case atStart => exact ⟨0, Nat.zero_le _, rfl, rfl, OwnB.nil _ _, Below.refl _ _⟩
      case round =>
        obtain ⟨j, hj, rfl, rfl, ho, hb⟩ := hrel
        have HOJ := hide ho
        have HBJ := hide hb
        have hsj := hb.size
        have v0 := cell_keep c0 hb
        have v1 := cell_keep c1 hb
        have v2 := cell_keep c2 hb
        clear ho hb
        have HKL := hide (rowOf_length j F)
        by_cases hj64 : j < 64
        · have hj' : (j : Int) < 64 := by omega
          have HS1 : Hid (rowOf j F ++ [F j] = rowOf (j + 1) F) := (rowOf_succ _ _).symm
          generalize rowOf j F = R2 at *
          obtain ⟨a1', cap1, rfl⟩ := (unhide HOJ).form
          have n0 : 0 ≤ ix * 64 + (j : Int) := by omega
          have n2 : ix * 64 + (j : Int) ≤ 4611686018427388000 := by omega
          have n3 : -9223372036854775808 ≤ ix * 64 + (j : Int) - off := by omega
          have n4 : ix * 64 + (j : Int) - off ≤ 9223372036854775807 := by omega
          have HIN := hide (fun h1 h2 => leftJ_in (ix := ix) (size := size) (off := off) (n := n) (j := j) h1 h2)
          have HBE := hide (fun h1 => leftJ_beyond (ix := ix) (size := size) (off := off) (n := n) (j := j) h1)
          have HOU := hide (fun h1 h2 => leftJ_out (ix := ix) (size := size) (off := off) (n := n) (j := j) h1 h2)
          have HFJ : Hid (F j = if off ≤ ix * 64 + (j : Int) ∧ ix * 64 + (j : Int) - off < n then 0 else da.getD j 0) := by rw [hide_eq, unhide HF]
          have hjz : j < (tx da).size := by omega
          have hjz' : (j : Int) < ((tx da).size : Int) := by omega
          generalize leftJ ix size off n j = LV at *
          by_cases g1 : off ≤ ix * 64 + (j : Int)
          · by_cases g2 : ix * 64 + (j : Int) - off < n
            · have HNEW := hide (unhide HIN g1 g2)
              by_cases g3 : ix * 64 + (j : Int) < size
              · have hx : F j = 0 := by rw [unhide HFJ]; exact if_pos ⟨g1, g2⟩
                rw [hx] at HS1
                clear hx hsz
                clear HFJ HF HIN HBE HOU HJ HPB
                go_wp2_with (at_builtin; refine app_byte 0 rfl _ _ rfl rfl rfl hsj (unhide HOJ) (by rw [unhide HKL]; omega) ?_; intro a' cap' w' ho' hb'; have HO9 := hide ho'; have HB9 := hide ((unhide HBJ).trans hb'); clear ho' hb')
                go_roundw
                case rel => exact ⟨j + 1, by omega, by go_num, by rw [unhide HNEW], by rw [← unhide HS1]; exact unhide HO9, unhide HB9⟩
                case measure => simp [intOf] <;> omega
              · have g3' : decide (ix * 64 + (j : Int) < size) = false := decide_eq_false g3
                have hx : F j = 0 := by rw [unhide HFJ]; exact if_pos ⟨g1, g2⟩
                rw [hx] at HS1
                clear hx hsz
                clear HFJ HF HIN HBE HOU HJ HPB
                go_wp2_with (at_builtin; refine app_byte 0 rfl _ _ rfl rfl rfl hsj (unhide HOJ) (by rw [unhide HKL]; omega) ?_; intro a' cap' w' ho' hb'; have HO9 := hide ho'; have HB9 := hide ((unhide HBJ).trans hb'); clear ho' hb')
                go_roundw
                case rel => exact ⟨j + 1, by omega, by go_num, by rw [unhide HNEW], by rw [← unhide HS1]; exact unhide HO9, unhide HB9⟩
                case measure => simp [intOf] <;> omega
            · have hno : off ≤ ix * 64 + (j : Int) → ix * 64 + (j : Int) - off < n → False := fun _ h => g2 h
              have g2' : decide (ix * 64 + (j : Int) - off < n) = false := decide_eq_false g2
              by_cases g3 : ix * 64 + (j : Int) < size
              · have HNEW := hide (unhide HOU g3 (fun h => hno h.1 h.2))
                have hx : F j = da.getD j 0 := by rw [unhide HFJ]; exact if_neg (fun h => hno h.1 h.2)
                have hat := tx_at da j hjz
                rw [← hx] at hat
                generalize F j = x at *
                clear hx hsz hno
                clear HFJ HF HIN HBE HOU HJ HPB
                go_wp2_with (at_builtin; refine app_byte x rfl _ _ rfl rfl rfl hsj (unhide HOJ) (by rw [unhide HKL]; omega) ?_; intro a' cap' w' ho' hb'; have HO9 := hide ho'; have HB9 := hide ((unhide HBJ).trans hb'); clear ho' hb')
                go_roundw
                case rel => exact ⟨j + 1, by omega, by go_num, by rw [unhide HNEW], by rw [← unhide HS1]; exact unhide HO9, unhide HB9⟩
                case measure => simp [intOf] <;> omega
              · have HNEW := hide (unhide HBE g3)
                have g3' : decide (ix * 64 + (j : Int) < size) = false := decide_eq_false g3
                have hx : F j = da.getD j 0 := by rw [unhide HFJ]; exact if_neg (fun h => hno h.1 h.2)
                have hat := tx_at da j hjz
                rw [← hx] at hat
                generalize F j = x at *
                clear hx hsz hno
                clear HFJ HF HIN HBE HOU HJ HPB
                go_wp2_with (at_builtin; refine app_byte x rfl _ _ rfl rfl rfl hsj (unhide HOJ) (by rw [unhide HKL]; omega) ?_; intro a' cap' w' ho' hb'; have HO9 := hide ho'; have HB9 := hide ((unhide HBJ).trans hb'); clear ho' hb')
                go_roundw
                case rel => exact ⟨j + 1, by omega, by go_num, by rw [unhide HNEW], by rw [← unhide HS1]; exact unhide HO9, unhide HB9⟩
                case measure => simp [intOf] <;> omega
          · have hno : off ≤ ix * 64 + (j : Int) → ix * 64 + (j : Int) - off < n → False := fun h _ => g1 h
            have g1' : decide (off ≤ ix * 64 + (j : Int)) = false := decide_eq_false g1
            by_cases g3 : ix * 64 + (j : Int) < size
            · have HNEW := hide (unhide HOU g3 (fun h => hno h.1 h.2))
              have hx : F j = da.getD j 0 := by rw [unhide HFJ]; exact if_neg (fun h => hno h.1 h.2)
              have hat := tx_at da j hjz
              rw [← hx] at hat
              generalize F j = x at *
              clear hx hsz hno
              clear HFJ HF HIN HBE HOU HJ HPB
              go_wp2_with (at_builtin; refine app_byte x rfl _ _ rfl rfl rfl hsj (unhide HOJ) (by rw [unhide HKL]; omega) ?_; intro a' cap' w' ho' hb'; have HO9 := hide ho'; have HB9 := hide ((unhide HBJ).trans hb'); clear ho' hb')
              go_roundw
              case rel => exact ⟨j + 1, by omega, by go_num, by rw [unhide HNEW], by rw [← unhide HS1]; exact unhide HO9, unhide HB9⟩
              case measure => simp [intOf] <;> omega
            · have HNEW := hide (unhide HBE g3)
              have g3' : decide (ix * 64 + (j : Int) < size) = false := decide_eq_false g3
              have hx : F j = da.getD j 0 := by rw [unhide HFJ]; exact if_neg (fun h => hno h.1 h.2)
              have hat := tx_at da j hjz
              rw [← hx] at hat
              generalize F j = x at *
              clear hx hsz hno
              clear HFJ HF HIN HBE HOU HJ HPB
              go_wp2_with (at_builtin; refine app_byte x rfl _ _ rfl rfl rfl hsj (unhide HOJ) (by rw [unhide HKL]; omega) ?_; intro a' cap' w' ho' hb'; have HO9 := hide ho'; have HB9 := hide ((unhide HBJ).trans hb'); clear ho' hb')
              go_roundw
              case rel => exact ⟨j + 1, by omega, by go_num, by rw [unhide HNEW], by rw [← unhide HS1]; exact unhide HO9, unhide HB9⟩
              case measure => simp [intOf] <;> omega
        · obtain rfl : j = 64 := by omega
          have HO2 := hide ((unhide HO).below (unhide HBJ))
          have HB2 := hide (below_then (unhide HB) (unhide HBJ))
          have hs2 := (unhide HB2).size
          clear HJ HPB
          cases hLV : leftJ ix size off n 64 with
          | false =>
            rw [hLV, if_neg (by decide), List.append_nil] at HSN
            have HLV := hide hLV
            clear hLV
            generalize rowOf 64 F = D at *
            obtain ⟨a1', cap1, rfl⟩ := (unhide HOJ).form
            go_wp2
            go_roundw
            case rel => exact ⟨i + 1, by have := unhide HLT; omega, by go_num, by rw [unhide HSN]; exact unhide HO2, unhide HB2⟩
            case measure => have := unhide HLT; simp [intOf] <;> omega
          | true =>
            rw [hLV, if_pos rfl] at HSN
            have HLV := hide hLV
            clear hLV
            generalize rowOf 64 F = D at *
            obtain ⟨a1', cap1, rfl⟩ := (unhide HOJ).form
            have H0 : Hid (wr.drew.cell? ⟨b, om + i * 2, none⟩ = some (.int .i64 ix) ∧ (convert 63 9 (.slice a1' D.length cap1)).run Tryd.prog wr.drew = .ok (.string (tx D)) wr.drew) := ⟨v0, conv_own (show OwnB _ wr.drew _ _ from unhide HOJ)⟩
            have H1 : Hid ((wr.alloc (.cells #[.int .i64 ix, .string (tx D)] 58)).drew.cell? ⟨b, om + i * 2, none⟩ = some (.int .i64 ix) ∧ (convert 63 9 (.slice a1' D.length cap1)).run Tryd.prog (wr.alloc (.cells #[.int .i64 ix, .string (tx D)] 58)).drew = .ok (.string (tx D)) (wr.alloc (.cells #[.int .i64 ix, .string (tx D)] 58)).drew) := ⟨cell_keep v0 (b_alloc wr _).drew, conv_own ((unhide HOJ).below (b_alloc wr (.cells #[.int .i64 ix, .string (tx D)] 58)).drew)⟩
            have KS : Hid (∀ (w2 : World), (wr.drew.alloc (.cells #[.int .i64 ix, .string (tx D)] 58)).grownBy w2 (Value.slice a0 R.length cap0).ownBlock → w2.cell? ⟨b, om + i * 2, none⟩ = some (.int .i64 ix) ∧ (convert 63 9 (.slice a1' D.length cap1)).run Tryd.prog w2 = .ok (.string (tx D)) w2) := fun w2 hg =>
              ⟨(World.cell?_of_block (hg.block b (by have := unhide HBLK; have := (b_alloc wr.drew (.cells #[.int .i64 ix, .string (tx D)] 58)).size; have : wr.drew.heap.size = wr.heap.size := rfl; omega) (fun e => by have := (unhide HRB b e.symm).1; have := unhide HBLK; omega))).trans (cell_keep v0 (b_alloc wr _)),
               conv_own (ownsRow_same ((unhide HOJ).below (b_alloc wr (.cells #[.int .i64 ix, .string (tx D)] 58))) (fun g hgd => hg.block g (by have := (World.ownsRow.lt ((unhide HOJ).below (b_alloc wr (.cells #[.int .i64 ix, .string (tx D)] 58))) g hgd).2; exact this) (fun e => by have := (unhide HRB g e.symm).2; have := (World.ownsRow.lt (unhide HOJ) g hgd).1; omega)))⟩
            go_wp2
            go_region_held3 (fun w' => w'.cell? ⟨b, om + i * 2, none⟩ = some (.int .i64 ix) ∧ (convert 63 9 (.slice a1' D.length cap1)).run Tryd.prog w' = .ok (.string (tx D)) w')
              (first | (with_reducible assumption) | (with_reducible exact unhide H0) | (with_reducible exact unhide H1) | (with_reducible exact S9))
              (first | (refine step_pc (wr := wr.drew) (v := .slice a0 R.length cap0) (l := R) ix D rfl _ _ rfl rfl rfl hs2 (unhide HO2) (by have := unhide HLN; omega) ?_; intro a' cap' w' ho' hb' hg'; have HO9 := hide ho'; have HB9 := hide ((unhide HB2).drew.trans hb'); have S9 := unhide KS _ hg'; clear ho' hb' hg'))
            go_wp2
            go_roundw
            case rel => exact ⟨i + 1, by have := unhide HLT; omega, by go_num, by rw [unhide HSN]; exact unhide HO9, unhide HB9⟩
            case measure => have := unhide HLT; simp [intOf] <;> omega
    · obtain rfl : i = l.length := by omega
      have hlt' : ¬ (l.length : Int) < (l.length : Int) := by omega
      rw [List.take_length, ← unhide HLR] at ho
      have HOL := hide ho
      obtain ⟨a0, cap0, rfl⟩ := (unhide HOL).form
      clear ho HO hlt hb HB1
      go_wp2
      go_ret2
      exact ⟨⟨_, rfl, unhide HOL⟩, unhide HB⟩
end Go.Proofs.YtmpgaecnibakdaaDoor
