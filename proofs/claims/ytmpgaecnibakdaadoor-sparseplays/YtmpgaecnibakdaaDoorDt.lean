/- The document's Truncate. -/
import Derived.Test.YtmpgaecnibakdaaDoorTr
namespace Go.Proofs.YtmpgaecnibakdaaDoor
open Go.ChangeShapes Go.WideShapes Go.ChangeAt Go.RowKit
attribute [local go_sem] Oper.semAt_some

theorem truncR_snoc (L : List Pc) (p : Pc) (n : Int) : truncR (L ++ [p]) n = truncR L n ++ (if p.1 * 64 < n then [cutP n p] else []) := by
  unfold truncR
  rw [List.filter_append, List.map_append]
  congr 1
  by_cases h : p.1 * 64 < n
  · rw [if_pos h, List.filter_cons_of_pos (by simpa using h)]; rfl
  · rw [if_neg h, List.filter_cons_of_neg (by simpa using h)]; rfl
theorem truncR_len (L : List Pc) (n : Int) : (truncR L n).length ≤ L.length := by
  unfold truncR
  rw [List.length_map]
  exact List.length_filter_le _ _
theorem Ps.blk {w : World} {a : Option Addr} {l : List Pc} {b off : Nat} (h : Ps w a l) (hl : 0 < l.length) (ha : a = some ⟨b, off, none⟩) : b < w.heap.size := by
  rcases h with h0 | ⟨b', off', rfl, hlt, _⟩
  · omega
  · injection ha with ha
    injection ha with h1
    exact h1 ▸ hlt
/-- append of a piece in a drawn region -/
theorem step_pc {ops : Array Oper} {o : Oper} {a : Act} {K : Act → World → Prop} {Q : Exit → Act → World → Prop} {E : Prop} {B : Nat} {wr : World} {v : Value} {l : List Pc} (ix : Int) (da : List UInt8)
    (hgd : o.guard = none) (s y : Operand) (ho : o.op = .call { callee := .builtin .append, args := #[s, y], argTypes := #[22, 22] })
    (hs : a.eval s = v) (hx : a.eval y = .slice (some ⟨wr.heap.size, 0, none⟩) 1 1) (hB : B ≤ wr.heap.size) (hown : OwnP B wr v l) (hlen : l.length ≤ 1000000)
    (h : ∀ a' cap' w', OwnP B w' (.slice a' (l.length + 1) cap') (l ++ [(ix, da)]) → Below B wr w' → (wr.alloc (.cells #[.int .i64 ix, .string (tx da)] 58)).grownBy w' v.ownBlock → K (a.put o.dst (.slice a' (l.length + 1) cap')) w') :
    if Region.wanted o (yielded ops a.tmps) = true then Oper.wp Tryd.prog o a (wr.alloc (.cells #[.int .i64 ix, .string (tx da)] 58)) K Q else E := by
  have hw : Region.wanted o (yielded ops a.tmps) = true := by simp [Region.wanted, hgd]
  rw [if_pos hw]
  obtain ⟨i0, hi, hz0, hz1, hz2⟩ := info_parts info58
  obtain ⟨v', w', hr, ho', hg, _, hloc⟩ := run_append_own_at (P := Tryd.prog) (wr.alloc (.cells #[.int .i64 ix, .string (tx da)] 58)) B 22 o.type 58 i0 _ 2 24 Tryd.underlying22 hi hz0 hz1 hz2 rfl (by decide) v l.length (pcs l) (World.ownsRow.alloc hown _) ⟨wr.heap.size, 0, none⟩ 1 1 [.int .i64 ix, .string (tx da)] rfl
    (fun j u hj => by
      rw [Go.WideShapes.add_plain, Nat.zero_add]
      simpa using hj)
    (by intro u hu; simp at hu; rcases hu with rfl | rfl <;> rfl) (by unfold maxLen; omega) (by omega) (by simp; omega)
  obtain ⟨a', cap', rfl⟩ := ownsRow_form ho'
  unfold Oper.wp execOp
  simp only [ho, resolve, invoke, builtin, Sem.run_bind, Sem.run_pure, Result.andThen_ok, List.map_toArray, List.map_cons, List.map_nil, hs, hx, hr]
  refine h a' cap' w' (OwnP.snoc (x := (ix, da)) ho') ?_ hg
  refine ((Below.refl B wr).alloc hB (.cells #[.int .i64 ix, .string (tx da)] 58)).grown hg (by simp; omega) ?_
  intro k hk
  exact (World.ownsRow.lt hown k hk).1

set_option maxHeartbeats 4000000 in
set_option maxRecDepth 10000 in
theorem truncD_any (a : Option Addr) (cap : Nat) (l : List Pc) (size n : Int) (w : World) (hr : Ps w a l) (hl : l.length ≤ 9000) (hd : ∀ p ∈ l, p.2.length ≤ 10000) :
    Calls Tryd.prog 20 #[.slice a l.length cap, .int .i64 size, .int .i64 n] w fun e w' => Ans3 w.heap.size (truncA l size n) e w' ∧ Below w.heap.size w w' := by
  have HC := hide (chkD_any a cap l size w hr (by omega) (fun p hp => by have := hd p hp; omega))
  by_cases hc : chkR l size = 0
  case neg =>
    rw [truncA_form hc]
    have h21 : chkR l size = 21 := (chk_two l size).resolve_left hc
    rw [h21] at HC
    clear hr hc h21
    go_enter Tryd.func20, Tryd.ntmps20
    go_wp2_with fail
    refine (unhide HC).mono ?_
    rintro e w1 ⟨rfl, hb1⟩
    have HB1 := hide hb1
    clear hb1 HC
    go_wp2
    go_ret3
    exact ⟨⟨_, rfl, OwnP.nil _ _⟩, unhide HB1⟩
  have hri := right_chk hc
  rw [hc] at HC
  by_cases a1 : n < 0
  · rw [truncA_arg hc a1]
    clear hri hc hr
    go_enter Tryd.func20, Tryd.ntmps20
    go_wp2_with fail
    refine (unhide HC).mono ?_
    rintro e w1 ⟨rfl, hb1⟩
    have HB1 := hide hb1
    clear hb1 HC
    go_wp2
    go_ret3
    exact ⟨⟨_, rfl, OwnP.nil _ _⟩, unhide HB1⟩
  by_cases a2 : 4611686018427387904 < n
  · rw [truncA_far hc a1 a2]
    clear hri hc hr
    go_enter Tryd.func20, Tryd.ntmps20
    go_wp2_with fail
    refine (unhide HC).mono ?_
    rintro e w1 ⟨rfl, hb1⟩
    have HB1 := hide hb1
    clear hb1 HC
    go_wp2
    go_ret3
    exact ⟨⟨_, rfl, OwnP.nil _ _⟩, unhide HB1⟩
  rw [truncA_ok hc a1 a2]
  have s1 := hri.hi
  have HOK := hide hri.ok
  have HR := hide (fun W (hW : Below w.heap.size w W) => hr.below hW)
  obtain ⟨LR, hLR⟩ : ∃ LR, LR = truncR l n := ⟨_, rfl⟩
  have HLR := hide hLR
  rw [← hLR]
  clear hri hc hr hLR
  go_enter Tryd.func20, Tryd.ntmps20
  go_wp2_with fail
  refine (unhide HC).mono ?_
  rintro e w1 ⟨rfl, hb1⟩
  have HB1 := hide hb1
  clear hb1 HC
  go_wp2
  go_loopw [10, 11] (fun r s wr => ∃ i : Nat, i ≤ l.length ∧ s = .int .i64 i ∧ OwnP w.heap.size wr r (truncR (l.take i) n) ∧ Below w.heap.size w wr) (fun _ s _ => l.length - (intOf s).toNat)
  case atStart => exact ⟨0, Nat.zero_le _, rfl, OwnP.nil _ _, unhide HB1⟩
  case round =>
    obtain ⟨i, hi, rfl, ho, hb⟩ := hrel
    have HO := hide ho
    have HB := hide hb
    have HBS := hide hb.size
    by_cases hlt : i < l.length
    · obtain ⟨⟨ix, da⟩, hx⟩ := get_some hlt
      obtain ⟨b, off, rfl, c0, c1, c2⟩ := (unhide HR _ hb).get hx
      have hlt' : (i : Int) < (l.length : Int) := by omega
      obtain ⟨o1, o2, o3, o4⟩ := unhide HOK _ (List.mem_of_getElem? hx)
      simp only at o1 o2 o3
      have hts := take_snoc hx
      have hsn := truncR_snoc (l.take i) (ix, da) n
      rw [← hts] at hsn
      have hln := truncR_len (l.take i) n
      rw [List.length_take] at hln
      have m1 : 0 ≤ ix * 64 := by omega
      have m2 : ix * 64 ≤ 4611686018427387904 := by omega
      have HLT := hide hlt
      clear hx ho hb o4 HB1
      by_cases hcut : ix * 64 < n
      · rw [if_pos hcut] at hsn
        have HCUT : Hid (cutP n (ix, da) = (ix, rowOf 64 fun k => if ix * 64 + k < n then da.getD k 0 else 0)) := rfl
        rw [unhide HCUT] at hsn
        obtain ⟨R, hR⟩ : ∃ R, R = truncR (l.take i) n := ⟨_, rfl⟩
        rw [← hR] at hsn hln HO
        obtain ⟨F, hF⟩ : ∃ F : Nat → UInt8, F = fun (k : Nat) => if ix * 64 + (k : Int) < n then da.getD k 0 else 0 := ⟨_, rfl⟩
        rw [← hF] at hsn
        have HF := hide hF
        have HSN := hide hsn
        have HBLK := hide ((unhide HR w (Below.refl _ _)).blk (by omega) rfl)
        have HLN : Hid (R.length ≤ 9000) := by rw [hide_eq]; omega
        obtain ⟨a0, cap0, rfl⟩ := (unhide HO).form
        have hsz : (tx da).size = 64 := by rw [tx_size]; exact o3
        have HRB := hide (fun g hg => World.ownsRow.lt (unhide HO) g hg)
        clear hR hF hsn hln hts hlt
        go_wp2
        go_loopw [12, 13] (fun r s wq => ∃ j : Nat, j ≤ 64 ∧ s = .int .i64 j ∧ OwnB wr.heap.size wq r (rowOf j F) ∧ Below wr.heap.size wr wq) (fun _ s _ => 64 - (intOf s).toNat)
        case atStart => exact ⟨0, Nat.zero_le _, rfl, OwnB.nil _ _, Below.refl _ _⟩
        case round =>
          obtain ⟨j, hj, rfl, ho, hb⟩ := hrel
          have HOJ := hide ho
          have HBJ := hide hb
          have hsj := hb.size
          have v0 := cell_keep c0 hb
          have v1 := cell_keep c1 hb
          have v2 := cell_keep c2 hb
          clear ho hb
          have HKL := hide (rowOf_length j F)
          by_cases hj64 : j < 64
          · have hj' : (j : Int) < 64 := by omega
            have HS1 : Hid (rowOf j F ++ [F j] = rowOf (j + 1) F) := (rowOf_succ _ _).symm
            generalize rowOf j F = R2 at *
            obtain ⟨a1, cap1, rfl⟩ := (unhide HOJ).form
            have n0 : 0 ≤ ix * 64 + (j : Int) := by omega
            have n1 : ix * 64 + (j : Int) ≤ 4611686018427388000 := by omega
            by_cases hin : ix * 64 + (j : Int) < n
            · have hx : F j = da.getD j 0 := by rw [unhide HF]; exact if_pos hin
              have hjz : j < (tx da).size := by omega
              have hjz' : (j : Int) < ((tx da).size : Int) := by omega
              have hat := tx_at da j hjz
              rw [← hx] at hat
              generalize F j = x at *
              clear hx hsz
              go_wp2_with (at_builtin; refine app_byte x rfl _ _ rfl rfl rfl hsj (unhide HOJ) (by rw [unhide HKL]; omega) ?_; intro a' cap' w' ho' hb'; have HO9 := hide ho'; have HB9 := hide ((unhide HBJ).trans hb'); clear ho' hb')
              go_roundw
              case rel => exact ⟨j + 1, by omega, by go_num, by rw [← unhide HS1]; exact unhide HO9, unhide HB9⟩
              case measure => simp [intOf] <;> omega
            · have hx : F j = 0 := by rw [unhide HF]; exact if_neg hin
              rw [hx] at HS1
              clear hx
              go_wp2_with (at_builtin; refine app_byte 0 rfl _ _ rfl rfl rfl hsj (unhide HOJ) (by rw [unhide HKL]; omega) ?_; intro a' cap' w' ho' hb'; have HO9 := hide ho'; have HB9 := hide ((unhide HBJ).trans hb'); clear ho' hb')
              go_roundw
              case rel => exact ⟨j + 1, by omega, by go_num, by rw [← unhide HS1]; exact unhide HO9, unhide HB9⟩
              case measure => simp [intOf] <;> omega
          · obtain rfl : j = 64 := by omega
            have hconv := conv_own (unhide HOJ)
            have HO2 := hide ((unhide HO).below (unhide HBJ))
            have HB2 := hide (below_then (unhide HB) (unhide HBJ))
            have hs2 := (unhide HB2).size
            generalize rowOf 64 F = D at *
            obtain ⟨a1, cap1, rfl⟩ := (unhide HOJ).form
            clear hconv
            have H0 : Hid (wr.drew.cell? ⟨b, off + i * 2, none⟩ = some (.int .i64 ix) ∧ (convert 63 9 (.slice a1 D.length cap1)).run Tryd.prog wr.drew = .ok (.string (tx D)) wr.drew) := ⟨v0, conv_own (show OwnB _ wr.drew _ _ from unhide HOJ)⟩
            have H1 : Hid ((wr.alloc (.cells #[.int .i64 ix, .string (tx D)] 58)).drew.cell? ⟨b, off + i * 2, none⟩ = some (.int .i64 ix) ∧ (convert 63 9 (.slice a1 D.length cap1)).run Tryd.prog (wr.alloc (.cells #[.int .i64 ix, .string (tx D)] 58)).drew = .ok (.string (tx D)) (wr.alloc (.cells #[.int .i64 ix, .string (tx D)] 58)).drew) := ⟨cell_keep v0 (b_alloc wr _).drew, conv_own ((unhide HOJ).below (b_alloc wr (.cells #[.int .i64 ix, .string (tx D)] 58)).drew)⟩
            have KS : Hid (∀ (w2 : World), (wr.drew.alloc (.cells #[.int .i64 ix, .string (tx D)] 58)).grownBy w2 (Value.slice a0 R.length cap0).ownBlock → w2.cell? ⟨b, off + i * 2, none⟩ = some (.int .i64 ix) ∧ (convert 63 9 (.slice a1 D.length cap1)).run Tryd.prog w2 = .ok (.string (tx D)) w2) := fun w2 hg =>
              ⟨(World.cell?_of_block (hg.block b (by have := unhide HBLK; have := (b_alloc wr.drew (.cells #[.int .i64 ix, .string (tx D)] 58)).size; have : wr.drew.heap.size = wr.heap.size := rfl; omega) (fun e => by have := (unhide HRB b e.symm).1; have := unhide HBLK; omega))).trans (cell_keep v0 (b_alloc wr _)),
               conv_own (ownsRow_same ((unhide HOJ).below (b_alloc wr (.cells #[.int .i64 ix, .string (tx D)] 58))) (fun g hgd => hg.block g (by have := (World.ownsRow.lt ((unhide HOJ).below (b_alloc wr (.cells #[.int .i64 ix, .string (tx D)] 58))) g hgd).2; exact this) (fun e => by have := (unhide HRB g e.symm).2; have := (World.ownsRow.lt (unhide HOJ) g hgd).1; omega)))⟩
            go_wp2
            go_region_held3 (fun w' => w'.cell? ⟨b, off + i * 2, none⟩ = some (.int .i64 ix) ∧ (convert 63 9 (.slice a1 D.length cap1)).run Tryd.prog w' = .ok (.string (tx D)) w')
              (first | (with_reducible assumption) | (with_reducible exact unhide H0) | (with_reducible exact unhide H1) | (with_reducible exact S9))
              (first | (refine step_pc (wr := wr.drew) (v := .slice a0 R.length cap0) (l := R) ix D rfl _ _ rfl rfl rfl hs2 (unhide HO2) (by have := unhide HLN; omega) ?_; intro a' cap' w' ho' hb' hg'; have HO9 := hide ho'; have HB9 := hide ((unhide HB2).drew.trans hb'); have S9 := unhide KS _ hg'; clear ho' hb' hg'))
            go_wp2
            go_roundw
            case rel => exact ⟨i + 1, by have := unhide HLT; omega, by go_num, by rw [unhide HSN]; exact unhide HO9, unhide HB9⟩
            case measure => have := unhide HLT; simp [intOf] <;> omega
      · rw [if_neg hcut, List.append_nil] at hsn
        rw [← hsn] at HO
        clear hsn hts hln
        obtain ⟨R, hR⟩ : ∃ R, R = truncR (l.take (i + 1)) n := ⟨_, rfl⟩
        have HRR := hide hR
        rw [← hR] at HO
        obtain ⟨a0, cap0, rfl⟩ := (unhide HO).form
        clear hR hlt
        go_wp2
        go_roundw
        case rel => exact ⟨i + 1, by have := unhide HLT; omega, by go_num, by rw [← unhide HRR]; exact unhide HO, unhide HB⟩
        case measure => have := unhide HLT; simp [intOf] <;> omega
    · obtain rfl : i = l.length := by omega
      have hlt' : ¬ (l.length : Int) < (l.length : Int) := by omega
      rw [List.take_length, ← unhide HLR] at ho
      have HOL := hide ho
      obtain ⟨a0, cap0, rfl⟩ := (unhide HOL).form
      clear ho HO hlt hb HB1
      go_wp2
      go_ret3
      exact ⟨⟨_, rfl, unhide HOL⟩, unhide HB⟩
end Go.Proofs.YtmpgaecnibakdaaDoor
