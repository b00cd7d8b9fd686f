/- Texts that the proof needs, one behind the other. -/
import Derived.Test.YteokbefcdpjkaaaGreatDoorXloadsam
import Derived.Test.YteokbefcdpjkaaaGreatDoorMai
import Derived.Test.YteokbefcdpjkaaaGreatDoorMad
import Derived.Deep.Slices
import Derived.Deep.SlicePairs
import Derived.Lib.SmallJoins
import Derived.Test.YteokbefcdpjkaaaGreatDoorXloadsal
import Derived.Test.YteokbefcdpjkaaaGreatDoorMak
/- What is held from outside is loaded from a copy of the disk. -/
namespace Go.Proofs.YteokbefcdpjkaaaGreatDoor
open Go.ChangeShapes Go.WideShapes Go.ChangeAt Go.RowKit
variable {w w' : World} {p d : Nat} {h : Hp} {c : Nat} {F : List Nat} {m t : Nat} {s : Hs}

theorem hget_eq (q : Int) (hq : L5.I64 q) (w : World) (H : IsHeap w p d h c F) {X : L6.Nd} {E : Int} (hg : getR h q = (X, E)) :
    Calls Tryz.prog 20 #[.pointer (some ⟨p, 0, none⟩), .int .i64 q] w fun e w' => ∃ (ai ak : Option Addr) (ci ck : Nat), e = .returned (.tuple #[.agg #[.bool X.leaf, .slice ai X.its.length ci, .slice ak X.kds.length ck], .int .i64 E]) ∧ L6.Has w' X ai ak ∧ Below w.heap.size w w' := by
  have := hget_any q hq w H
  rw [hg] at this
  exact this
theorem encode_its {n : L6.Nd} (he : (L6.encodeN n).2 = 0) : n.its.length ≤ 1100 := by
  have h := decode_encode he
  unfold L6.decodeN at h
  split at h
  · rename_i hc
    have h2 := L6.readN_its _ hc.1
    have e : (L6.readN (L6.encodeN n).1).1 = n := (Prod.ext_iff.1 h).1
    rw [e] at h2
    exact h2
  · have h60 : (60 : Nat) = 0 := (Prod.ext_iff.1 h).2
    exact absurd h60 (by decide)
theorem get_few (hg : Good m s t) (q : Nat) : (getR s.h (q : Int)).1.its.length ≤ 1000000 ∧ (getR s.h (q : Int)).1.kds.length ≤ 1000000 := by
  unfold getR
  split
  · exact ⟨Nat.zero_le _, Nat.zero_le _⟩
  · rename_i hz
    obtain ⟨g, _, _, hf⟩ := hg.fetch (q := q) (Nat.pos_of_ne_zero hz)
    have he := (hg.node q (Nat.pos_of_ne_zero hz)).1
    rw [hf]
    have h1 := encode_its he
    have h2 := encode_kds he
    exact ⟨by show (s.put q).its.length ≤ _; omega, by show (s.put q).kds.length ≤ _; omega⟩
theorem IsHeap.disk (H : IsHeap w p d h c F) : ∃ fd, L3.IsDisk w d h.dk c fd := by
  obtain ⟨a, b, kb, fd, kf, H, rfl⟩ := H
  exact ⟨fd, H.dk⟩
set_option maxHeartbeats 1000000 in
set_option maxRecDepth 20000 in
theorem load_one (p : Nat) (w : World) : Calls Tryz.prog 27 #[.pointer (some ⟨p, 0, none⟩), .int .i64 1] w fun e w' => e = .returned (.int .i64 31) ∧ w' = w := by
  go_enter Tryz.func27, Tryz.ntmps27
  go_wp2
  go_ret
  exact ⟨rfl, rfl⟩
set_option maxHeartbeats 1000000 in
set_option maxRecDepth 20000 in
theorem load_last (w : World) (H : IsHeap w p d h c F) (hl : h.dk.old.length = 16) : Calls Tryz.prog 27 #[.pointer (some ⟨p, 0, none⟩), .int .i64 16] w fun e w' => e = .returned (.int .i64 31) ∧ w' = w := by
  obtain ⟨a, b, kb, fd, kf, H, rfl⟩ := H
  obtain ⟨fb, lb, ov, hD, hfd⟩ := H.dk
  have p0 := H.cell0
  have p1 := H.cell1
  have HS16 : Hid ((h.dk.old.length : Int) = 16) := by show (h.dk.old.length : Int) = 16; omega
  have HHD := hide hD
  clear H hD hfd hl
  go_enter Tryz.func27, Tryz.ntmps27
  go_wp2_with (go_at_call 37; refine (L3.sectors_any _ (unhide HHD)).mono ?_; rintro e w1 ⟨rfl, hw⟩; rw [hw]; clear hw w1; rw [unhide HS16])
  go_ret
  exact ⟨rfl, rfl⟩
/-- a heap that is loaded, beside what was -/
structure LoadAt (w5 wr : World) (p d : Nat) (h : Hp) (c : Nat) (F : List Nat) : Prop where
  heap : IsHeap wr p d h c F
  bel : Below w5.heap.size w5 wr
  hF : ∀ x ∈ F, w5.heap.size ≤ x
  room : c + L5.room h.al ≤ 1000
theorem LoadAt.turn {w5 wr wr' : World} {h' : Hp} {c' : Nat} (k : LoadAt w5 wr p d h c F) (ht : HTurned wr wr' p d h' c' F) (hr : c' + L5.room h'.al ≤ c + L5.room h.al) : ∃ F', LoadAt w5 wr' p d h' c' F' := by
  have hb := ht.below k.bel k.hF k.bel.size
  obtain ⟨F', k1, k2, k3⟩ := ht
  refine ⟨F', k1, hb, fun x hx => ?_, Nat.le_trans hr k.room⟩
  rcases k3 x hx with h1 | h1
  · exact k.hF x h1
  · exact Nat.le_trans k.bel.size h1
theorem outI_at {i : Nat} (hi : i < 16) : outI s (i : Int) = s.out i := by unfold outI; rw [if_pos (by omega)]; rfl

set_option maxHeartbeats 4000000 in
set_option maxRecDepth 20000 in
theorem loads_walk (l : List Cl) (a : Option Addr) (cap : Nat) (w : World) (hT : L4.Tab w) (hl : Cls w.heap.size w a l) (hml : l.length ≤ maxLen) :
    Calls Tryz.prog 6 #[.slice a l.length cap] w fun e w' => e = .returned (.bool true) ∧ Below w.heap.size w w' := by
  have HT := hide hT
  have HLS := hide hl
  have HML := hide hml
  clear hT hl hml
  go_enter Tryz.func6, Tryz.ntmps6
  go_wp2_with (first
    | (go_at_call 9; refine (awake_any _ (unhide HT)).mono ?_; rintro e w1 ⟨rfl, hb⟩; have HB1 := hide hb; clear hb)
    | (go_at_call 17; refine (begun_ok 16 _ (tab_keep (unhide HT) (L5.Moves.of_below [] (unhide HB1)) List.not_mem_nil) (by decide) (by decide)).mono ?_; rintro e w2 ⟨p, q, d, F, rfl, hp, hb, hf⟩; have HB2 := hide (below_then (unhide HB1) hb); have HP := hide hp; have HF : Hid (∀ x ∈ F, w.heap.size ≤ x) := (fun x hx => Nat.le_trans (unhide HB1).size (hf x hx)); clear hp hb hf))
  refine (long_any w.heap.size l a cap w2 ((unhide HLS).base (unhide HB2)) (unhide HB2).size (unhide HML)).mono ?_
  rintro e w3 ⟨g, rfl, hsh, hb⟩
  have HSH := hide hsh
  have HB3 := hide (below_then (unhide HB2) hb)
  have HP3 := hide ((unhide HP).grow hb)
  clear hsh hb
  cases g with
  | true =>
    go_wp2
    go_ret
    exact ⟨rfl, unhide HB3⟩
  | false =>
    have HS : Hid (Short l) := by first | exact unhide HSH rfl | exact unhide HSH trivial
    go_wp2_with (first
      | (refine wp_build54 rfl _ rfl rfl ?_; intro v hv; have HV := hide hv; clear hv)
      | (refine wp_box54 rfl _ rfl (unhide HV) ?_; intro w4 hw4; have HW := hide hw4; clear hw4))
    have H4 : HeldIn w.heap.size w w4 w3.heap.size p d hs0 0 F (fun _ => (.bool false, .slice none 0 0, .slice none 0 0)) := by
      have hw := unhide HW
      subst hw
      have hb4 := below_alloc w3 (.cells (.pointer (some ⟨p, 0, none⟩) :: heldL0).toArray 54)
      refine ⟨(unhide HP3).grow hb4, held_new w3 p, below_then (unhide HB3) hb4, unhide HF, (unhide HB3).size, fun hx => ?_, fun i _ hp => ?_, Fr.of (below_then (unhide HB3) hb4)⟩
      · have := (unhide HP3).lt _ hx; omega
      · exact absurd hp (by rw [show hs0.h.cnt (i : Int) = 0 from new_cnt 16 1 _]; omega)
    have HH4 := hide H4
    obtain ⟨o, ho⟩ : ∃ x, x = w3.heap.size := ⟨_, rfl⟩
    rw [← ho] at HH4 ⊢
    clear H4 ho HW HV HP HP3
    refine (changes_any (m := 4096) (t := 0) (Nat.le_refl _) true l a cap w4 (unhide HH4) (unhide HLS) (unhide HS) good0 (by omega) (by omega)).mono ?_
    rintro e w5 ⟨rfl, F5, pv5, h5⟩
    have hlen := (unhide HS).1
    have hgd : Good 4096 (chgs true l hs0) 100 := by
      have h1 := good_chgs (m := 4096) (Nat.le_refl _) true l hs0 0 good0 (by omega)
      exact ⟨h1.bal, h1.near, h1.len, h1.ok, h1.lit, h1.old, ⟨h1.gen.1, by have := h1.gen.2; omega⟩, h1.node, h1.stamp, h1.wait⟩
    generalize chgs true l hs0 = s1 at *
    have hc : 0 + 2 * l.length ≤ 200 := by omega
    generalize 0 + 2 * l.length = c1 at *
    have HG := hide hgd
    have HC := hide hc
    have HH5 := hide h5
    have HG1 : Hid (0 ≤ s1.h.gen) := by have := hgd.gen; show 0 ≤ s1.h.gen; omega
    have HG2 : Hid (s1.h.gen ≤ 1152921504606846976) := by have := hgd.gen; show s1.h.gen ≤ 1152921504606846976; omega
    have HG3 : Hid (s1.h.dk.old.length = 16) := hgd.old
    obtain ⟨fd5, hd5⟩ := h5.heap.disk
    have HD5 := hide hd5
    have HP5 : Hid (0 < w5.heap.size) := by have := h5.held.lt; show 0 < _; omega
    clear h5 hgd hlen hc HH4 hd5
    go_wp2_with (first
      | (go_at_call 25; refine (L3.copy_any fd5 _ (unhide HD5) (by have := unhide HC; omega)).mono ?_; rintro e w6 ⟨d2, fp2, rfl, hd2, hb6, hfp⟩; have HD6 := hide hd2; have HB6 := hide hb6; have HF6 := hide hfp; have HH6 := hide ((unhide HH5).grow hb6); clear hd2 hb6 hfp)
      | (go_at_call 26; refine (hgen_any _ (unhide HH6).heap).mono ?_; rintro e w7 ⟨rfl, hw⟩; rw [hw]; clear hw w7)
      | fail)
    refine (hnew_ok s1.h.gen _ (unhide HD6) (unhide HH6).heap.tab (fun x hx => Nat.lt_of_lt_of_le (unhide HP5) (unhide HF6 x hx)) (by have := unhide HG1; omega) (by have := unhide HG2; omega) (by have := unhide HG3; omega)).mono ?_
    rintro e w8 ⟨p2, F8, rfl, h8, hb8, hf8⟩
    have HH8 := hide h8
    have HB8 := hide (below_then (unhide HB6) hb8)
    have HF8 : Hid (∀ x ∈ F8, w5.heap.size ≤ x) := (fun x hx => (hf8 x hx).elim (fun h1 => unhide HF6 x h1) (fun h1 => Nat.le_trans (unhide HB6).size h1))
    clear h8 hb8 hf8
    go_wp2_with fail
    have HN8 := hide (Ld.new (m := 4096) (unhide HG) s1.h.gen)
    have HRM8 : Hid (c1 + L5.room (newH s1.h.dk s1.h.gen).al ≤ 1000) := by
      have h1 : L5.room (newH s1.h.dk s1.h.gen).al ≤ (newH s1.h.dk s1.h.gen).al.length := List.countP_le_length
      have h2 := (unhide HN8).len
      have h3 := unhide HC
      show _ ≤ _
      omega
    clear HH6 HD6 HB6 HF6 HD5
    go_loopw [9] (fun t wr => ∃ (n : Nat) (h2 : Hp) (c2 : Nat) (F2 : List Nat), 2 ≤ n ∧ n ≤ 16 ∧ t = .int .i64 (n : Int) ∧ LoadAt w5 wr p2 d2 h2 c2 F2 ∧ Ld 4096 s1 h2 (fun x => if x < (n : Int) then outI s1 x else 0) (fun _ => 0)) (fun t _ => 16 - (intOf t).toNat)
    case atStart =>
      refine ⟨2, _, _, _, by omega, by omega, rfl, ⟨unhide HH8, unhide HB8, unhide HF8, unhide HRM8⟩, (unhide HN8).congr (fun x => ?_) (fun _ => rfl)⟩
      split
      · rename_i hx
        apply Eq.symm
        apply Classical.byContradiction
        intro hne
        have hb := (unhide HG).bal.bal x
        have := (unhide HG).lt (q := x) (by omega)
        omega
      · rfl
    case round =>
      clear HH8 HB8 HF8 HRM8 HN8
      obtain ⟨n, h2, c2, F2, hn2, hn16, rfl, hA, hL⟩ := hrel
      by_cases hlt : n < 16
      · have hlt' : (n : Int) < 16 := by omega
        have HA := hide hA
        have HL := hide hL
        clear hA hL
        go_wp2_with fail
        go_loopw [10] (fun t wr => ∃ (k : Nat) (h2 : Hp) (c2 : Nat) (F2 : List Nat), k ≤ s1.out n ∧ t = .int .i64 (k : Int) ∧ LoadAt w5 wr p2 d2 h2 c2 F2 ∧ Ld 4096 s1 h2 (fun x => (if x < (n : Int) then outI s1 x else 0) + (if x = (n : Int) then k else 0)) (fun _ => 0)) (fun t _ => s1.out n - (intOf t).toNat)
        case atStart => exact ⟨0, h2, c2, F2, Nat.zero_le _, rfl, unhide HA, (unhide HL).congr (fun x => by split <;> simp) (fun _ => rfl)⟩
        case round =>
          clear HA HL
          obtain ⟨k, h3, c3, F3, hk, rfl, hA, hL⟩ := hrel
          have z := ((unhide HH5).grow hA.bel).held.cnt n hlt
          have hob := ((unhide HG).out_le n hlt).2
          have hoI : outI s1 (n : Int) = s1.out n := outI_at hlt
          by_cases hkl : k < s1.out n
          · have hkl' : (k : Int) < (s1.out n : Int) := by omega
            have hLo := hL.out (q := (n : Int)) (by rw [if_neg (by omega), if_pos rfl, hoI]; omega)
            have HLD := hide (hload_ok (p := p2) (d := d2) (Nat.le_refl 4096) (unhide HG) (L5.room h3.al + 1) h3 c3 (n : Int) _ F3 _ hA.heap hLo (by unfold one; simp) (by omega) (by have := hA.room; omega))
            have HA := hide hA
            clear hA hL hLo hoI
            go_wp2_with (go_at_call 27; refine (unhide HLD).mono ?_; rintro e w9 ⟨rfl, h9, c9, ht9, hL9, hr9, hc9⟩; have HT9 := hide ht9; have HL9 := hide hL9; have HC9 := hide hc9; clear ht9 hL9 hr9 hc9)
            go_roundw
            case rel =>
              obtain ⟨F9, hA9⟩ := (unhide HA).turn (unhide HT9) (unhide HC9)
              refine ⟨k + 1, h9, c9, F9, by omega, by go_num, hA9, (unhide HL9).congr (fun x => ?_) (fun x => ?_)⟩
              · unfold one
                by_cases e : x = (n : Int)
                · rw [if_pos e, if_pos e, if_pos e]; omega
                · rw [if_neg e, if_neg e, if_neg e]
              · omega
            case measure => simp [intOf]; omega
          · have hkl' : ¬ (k : Int) < (s1.out n : Int) := by omega
            have HA := hide hA
            have HL2 : Hid (Ld 4096 s1 h3 (fun x => if x < ((n + 1 : Nat) : Int) then outI s1 x else 0) (fun _ => 0)) := hL.congr (fun x => by
              by_cases e : x = (n : Int)
              · rw [if_neg (by omega), if_pos e, if_pos (by omega), e, hoI]; omega
              · by_cases e2 : x < (n : Int)
                · rw [if_pos e2, if_neg e, if_pos (by omega)]; omega
                · rw [if_neg e2, if_neg e, if_neg (by omega)]) (fun _ => rfl)
            clear hA hL hoI
            go_wp2
            go_roundw
            case rel => exact ⟨n + 1, h3, c3, F3, by omega, by omega, by go_num, unhide HA, unhide HL2⟩
            case measure => simp [intOf]; omega
      · obtain rfl : n = 16 := by omega
        have hLL : Ld 4096 s1 h2 (outI s1) (fun _ => 0) := hL.congr (fun x => by
          split
          · rfl
          · rename_i hx; unfold outI; rw [if_neg (by omega)]) (fun _ => rfl)
        have HCE : Hid (∀ x, h2.cnt x = s1.h.cnt x) := fun x => hLL.done (unhide HG) x
        have HGE : Hid (∀ x, getR h2 x = getR s1.h x) := fun x => hLL.get (unhide HG) x
        have HOLD : Hid (h2.dk.old.length = 16) := by show h2.dk.old.length = 16; rw [hLL.dk]; exact (unhide HG).old
        have HHA := hide ((unhide HH5).grow hA.bel)
        have HA := hide hA
        clear hA hL hLL HH5
        go_wp2_with fail
        have HIH2 := hide (unhide HA).heap
        clear HA
        go_loopw [11] (fun t wr => ∃ n : Nat, 2 ≤ n ∧ n ≤ 16 ∧ t = .int .i64 (n : Int) ∧ HeldIn w.heap.size w wr o p d s1 c1 F5 pv5 ∧ IsHeap wr p2 d2 h2 c2 F2) (fun t _ => 16 - (intOf t).toNat)
        case atStart => exact ⟨2, by omega, by omega, rfl, unhide HHA, unhide HIH2⟩
        case round =>
          clear HHA HIH2
          obtain ⟨n, hn2, hn16, rfl, hH, hI⟩ := hrel
          by_cases hn : n < 16
          · have hn' : (n : Int) < 16 := by omega
            have HI : Hid (L5.I64 (n : Int)) := by show L5.I64 _; unfold L5.I64; omega
            have hfew := get_few (unhide HG) n
            obtain ⟨Y, E, hYE⟩ : ∃ Y E, getR s1.h (n : Int) = (Y, E) := ⟨_, _, rfl⟩
            have hYE2 : getR h2 (n : Int) = (Y, E) := (unhide HGE (n : Int)).trans hYE
            rw [hYE] at hfew
            have HFEW : Hid (Y.its.length ≤ 1000000 ∧ Y.kds.length ≤ 1000000) := hfew
            have HY1 := hide hYE
            have HY2 := hide hYE2
            have HH := hide hH
            have HK := hide hI
            obtain ⟨D, hD⟩ : ∃ y, y = ((s1.h.cnt (n : Int) : Nat) : Int) := ⟨_, rfl⟩
            have HDE := hide hD
            have HDE2 : Hid (D = ((h2.cnt (n : Int) : Nat) : Int)) := by show D = _; rw [unhide HCE]; exact hD
            clear hH hI hfew hYE hYE2 hD
            go_wp2_with fail
            refine (hget_eq (n : Int) (unhide HI) _ (unhide HH).heap (unhide HY1)).mono ?_
            rintro e w10 ⟨ai, ak, ci, ck, rfl, hh1, hb1⟩
            have hN1 := L6.Nblk.new w10 Y.leaf ai ak Y.its.length ci Y.kds.length ck
            have hb2 := below_alloc w10 (.cells #[.bool Y.leaf, .slice ai Y.its.length ci, .slice ak Y.kds.length ck] 43)
            have HH2 := hide (((unhide HH).grow hb1).grow hb2)
            have HK2 := hide (((unhide HK).grow hb1).grow hb2)
            have HX2 := hide (hh1.grow hb2)
            have HN2 := hide hN1
            clear hh1 hb1 hb2 hN1 HH HK
            go_wp2_with fail
            obtain ⟨xb, hxb⟩ : ∃ y, y = w10.heap.size := ⟨_, rfl⟩
            rw [← hxb] at HN2 ⊢
            clear hxb
            generalize w10.alloc (.cells #[.bool Y.leaf, .slice ai Y.its.length ci, .slice ak Y.kds.length ck] 43) = w11 at *
            refine (hget_eq (n : Int) (unhide HI) _ (unhide HK2) (unhide HY2)).mono ?_
            rintro e w12 ⟨bi, bk, di, dk, rfl, hh1, hb1⟩
            have hN1 := L6.Nblk.new w12 Y.leaf bi bk Y.its.length di Y.kds.length dk
            have hb2 := below_alloc w12 (.cells #[.bool Y.leaf, .slice bi Y.its.length di, .slice bk Y.kds.length dk] 43)
            have HH3 := hide (((unhide HH2).grow hb1).grow hb2)
            have HK3 := hide (((unhide HK2).grow hb1).grow hb2)
            have HX3 := hide (((unhide HX2).grow hb1).grow hb2)
            have HZ3 := hide (hh1.grow hb2)
            have hN0 := ((unhide HN2).below hb1).below hb2
            have x0 := hN0.cell0
            have x1 := hN0.cell1
            have x2 := hN0.cell2
            have y0 := hN1.cell0
            have y1 := hN1.cell1
            have y2 := hN1.cell2
            clear hh1 hb1 hb2 hN1 hN0 HH2 HK2 HX2 HN2
            go_wp2_with fail
            refine (hcount_any (n : Int) (unhide HI) _ (unhide HH3).heap).mono ?_
            rintro e w13 ⟨rfl, hw⟩
            rw [hw]
            clear hw w13
            rw [← unhide HDE]
            go_wp2_with fail
            refine (hcount_any (n : Int) (unhide HI) _ (unhide HK3)).mono ?_
            rintro e w13 ⟨rfl, hw⟩
            rw [hw]
            clear hw w13
            rw [← unhide HDE2]
            go_wp2_with fail
            refine (L6.same_any Y ai ak bi bk ci ck di dk _ (unhide HX3) (unhide HZ3) (unhide HFEW).1 (unhide HFEW).2).mono ?_
            rintro e w14 ⟨rfl, hb14⟩
            have HH4 := hide ((unhide HH3).grow hb14)
            have HK4 := hide ((unhide HK3).grow hb14)
            clear hb14
            go_wp2
            go_roundw
            case rel =>
              first
              | exact ⟨n + 1, by omega, by omega, by go_num, unhide HH4, unhide HK4⟩
              | ((repeat apply Exists.intro); refine ⟨?_, rfl⟩; exact ⟨n + 1, by omega, by omega, by go_num, unhide HH4, unhide HK4⟩)
            case measure => simp [intOf]; omega
          · obtain rfl : n = 16 := by omega
            have HB := hide hH.bel
            have HK := hide hI
            clear hH hI
            go_wp2_with fail
            refine (load_one p2 _).mono ?_
            rintro e w13 ⟨rfl, hw⟩
            rw [hw]
            clear hw w13
            go_wp2_with fail
            refine (load_last _ (unhide HK) (unhide HOLD)).mono ?_
            rintro e w13 ⟨rfl, hw⟩
            rw [hw]
            clear hw w13
            go_wp2
            go_ret
            exact ⟨rfl, unhide HB⟩
end Go.Proofs.YteokbefcdpjkaaaGreatDoor

/- Nodes that came in. -/
namespace Go.Proofs.YteokbefcdpjkaaaGreatDoor.L6
open Go.ChangeShapes Go.WideShapes Go.ChangeAt Go.RowKit Go.Deep Go.Joins

theorem range_get {α : Type} (f : Nat → α) {len i : Nat} {x : α} (h : ((List.range len).map f)[i]? = some x) : i < len ∧ x = f i := by
  rw [List.getElem?_map] at h
  by_cases hi : i < len
  · rw [List.getElem?_range hi] at h
    simp at h
    exact ⟨hi, h.symm⟩
  · rw [List.getElem?_eq_none (by simpa using hi)] at h
    simp at h

theorem its_in {H : Type} {enc : TypeId × Value → H} {W : World} {n : Nat} {v : Value} {x : DataW H × List MemPlace} (h : DataW.trod enc Tryz.prog W 0 (fun _ => true) true n 40 [v] = some x) :
    ∃ (a : Option Addr) (cap : Nat) (l : List It), v = .slice a l.length cap ∧ Row Value.string W a l ∧ l.length ≤ maxLen := by
  rcases open_slice_pairs Tryz.underlying40 Tryz.underlying107 (by kernel_rfl) rfl rfl (by kernel_rfl) (by kernel_rfl) h with ⟨hcs, _⟩ | ⟨a, len, cap, m, n, V0, V1, D0, D1, P0, P1, hcs, _, hl, hm, hmm, _, hx⟩
  · simp at hcs
    subst hcs
    exact ⟨none, 0, [], rfl, .inl rfl, Nat.zero_le _⟩
  · simp at hcs
    subst hcs
    have hmc : m = cap := by simpa using hmm
    subst hmc
    have key : ∀ i, i < len → ∃ q : It, W.cell? (a.add (i * 2)) = some (.string q.1) ∧ W.cell? (a.add (i * 2 + 1)) = some (.string q.2) := by
      intro i hi
      obtain ⟨c0, c1, t0, t1⟩ := hx i (by omega)
      obtain ⟨k0, e0, _⟩ := DataW.trod_string Tryz.underlying9 t0
      obtain ⟨k1, e1, _⟩ := DataW.trod_string Tryz.underlying9 t1
      simp at e0 e1
      rw [e0] at c0
      rw [e1] at c1
      exact ⟨(k0, k1), c0, c1⟩
    haveI : Inhabited It := ⟨(⟨#[]⟩, ⟨#[]⟩)⟩
    obtain ⟨f, hf⟩ := choose_lt key
    refine ⟨some a, m, (List.range len).map f, by simp, ?_, by simp; omega⟩
    by_cases h0 : len = 0
    · exact .inl (by rw [h0]; rfl)
    · obtain ⟨b, off, spot⟩ := a
      have hspot : spot = none := by simpa [Addr.add] using World.cell?_spot (hf 0 (by omega)).1
      subst hspot
      refine .inr ⟨b, off, rfl, fun i x hx' => ?_⟩
      obtain ⟨hi, rfl⟩ := range_get f hx'
      obtain ⟨c0, c1⟩ := hf i hi
      rw [Go.WideShapes.add_plain] at c0 c1
      exact ⟨c0, by rw [← Nat.add_assoc] at c1; exact c1⟩

theorem kds_in {H : Type} {enc : TypeId × Value → H} {W : World} {n : Nat} {v : Value} {x : DataW H × List MemPlace} (h : DataW.trod enc Tryz.prog W 0 (fun _ => true) true n 41 [v] = some x) :
    ∃ (a : Option Addr) (cap : Nat) (l : List Kd), v = .slice a l.length cap ∧ Row kv W a l ∧ l.length ≤ maxLen := by
  rcases open_slice_pairs Tryz.underlying41 Tryz.underlying61 (by kernel_rfl) rfl rfl (by kernel_rfl) (by kernel_rfl) h with ⟨hcs, _⟩ | ⟨a, len, cap, m, n, V0, V1, D0, D1, P0, P1, hcs, _, hl, hm, hmm, _, hx⟩
  · simp at hcs
    subst hcs
    exact ⟨none, 0, [], rfl, .inl rfl, Nat.zero_le _⟩
  · simp at hcs
    subst hcs
    have hmc : m = cap := by simpa using hmm
    subst hmc
    have key : ∀ i, i < len → ∃ q : Kd, W.cell? (a.add (i * 2)) = some (.string q.1) ∧ W.cell? (a.add (i * 2 + 1)) = some (.int .i64 q.2) := by
      intro i hi
      obtain ⟨c0, c1, t0, t1⟩ := hx i (by omega)
      obtain ⟨k0, e0, _⟩ := DataW.trod_string Tryz.underlying9 t0
      obtain ⟨k1, e1, _⟩ := DataW.trod_int Tryz.underlying3 t1
      simp at e0 e1
      rw [e0] at c0
      rw [e1] at c1
      exact ⟨(k0, k1), c0, c1⟩
    haveI : Inhabited Kd := ⟨(⟨#[]⟩, 0)⟩
    obtain ⟨f, hf⟩ := choose_lt key
    refine ⟨some a, m, (List.range len).map f, by simp, ?_, by simp; omega⟩
    by_cases h0 : len = 0
    · exact .inl (by rw [h0]; rfl)
    · obtain ⟨b, off, spot⟩ := a
      have hspot : spot = none := by simpa [Addr.add] using World.cell?_spot (hf 0 (by omega)).1
      subst hspot
      refine .inr ⟨b, off, rfl, fun i x hx' => ?_⟩
      obtain ⟨hi, rfl⟩ := range_get f hx'
      obtain ⟨c0, c1⟩ := hf i hi
      rw [Go.WideShapes.add_plain] at c0 c1
      exact ⟨c0, by rw [← Nat.add_assoc] at c1; exact c1⟩

end Go.Proofs.YteokbefcdpjkaaaGreatDoor.L6

/- Calls that came in. -/
namespace Go.Proofs.YteokbefcdpjkaaaGreatDoor
open Go.ChangeShapes Go.WideShapes Go.ChangeAt Go.RowKit Go.Deep

theorem under_irow {W : World} {a : Option Addr} {l : List Int} (h : Irow W a l) : l = [] ∨ Under W.heap.size a := by
  rcases h with h | ⟨b, off, e, hh⟩
  · exact .inl h
  · by_cases hl : l = []
    · exact .inl hl
    · right
      intro x hx
      rw [e] at hx
      injection hx with hx
      rw [← hx]
      obtain ⟨y, hy⟩ : ∃ y, l[0]? = some y := ⟨_, List.getElem?_eq_getElem (List.length_pos_iff.2 hl)⟩
      exact World.block_lt_of_cell? _ _ (hh 0 y hy)
theorem under_row {β : Type} {sv : β → Value} {W : World} {a : Option Addr} {l : List (ByteArray × β)} (h : L6.Row sv W a l) : l = [] ∨ Under W.heap.size a := by
  rcases h with h | ⟨b, off, e, hh⟩
  · exact .inl h
  · by_cases hl : l = []
    · exact .inl hl
    · right
      intro x hx
      rw [e] at hx
      injection hx with hx
      rw [← hx]
      obtain ⟨y, hy⟩ : ∃ y, l[0]? = some y := ⟨_, List.getElem?_eq_getElem (List.length_pos_iff.2 hl)⟩
      exact World.block_lt_of_cell? _ _ (hh 0 y hy).1
theorem ints_in {H : Type} {enc : TypeId × Value → H} {W : World} {n : Nat} {v : Value} {x : DataW H × List MemPlace} (h : DataW.trod enc Tryz.prog W 0 (fun _ => true) true n 39 [v] = some x) : ∃ (a : Option Addr) (cap : Nat) (l : List Int), v = .slice a l.length cap ∧ Irow W a l ∧ l.length ≤ maxLen := by
  rcases open_ints Tryz.underlying39 Tryz.underlying3 (by kernel_rfl) h with ⟨hcs, _⟩ | ⟨a, l, c, zs, hcs, _, hl, hm, hz, _, hcell, hwz⟩
  · simp at hcs
    subst hcs
    exact ⟨none, 0, [], rfl, .inl rfl, Nat.zero_le _⟩
  · simp at hcs
    subst hcs
    have hzl : zs.length = c := by simpa using hz
    have htl : (zs.take l).length = l := by rw [List.length_take]; omega
    refine ⟨some a, c, zs.take l, by rw [htl], ?_, by rw [htl]; omega⟩
    by_cases h0 : l = 0
    · exact .inl (by rw [h0]; rfl)
    · obtain ⟨b, off, rfl, hc⟩ := ints_at hcell (by omega)
      refine .inr ⟨b, off, rfl, fun i x hx => ?_⟩
      obtain ⟨hi, hxe⟩ := List.getElem?_eq_some_iff.1 hx
      rw [htl] at hi
      rw [hc i (by omega)]
      congr 2
      rw [← hxe, List.getElem_take, List.getD_eq_getElem?_getD, List.getElem?_eq_getElem (by omega)]
      rfl
set_option maxRecDepth 100000 in
theorem calls_of {H : Type} {enc : TypeId × Value → H} {W : World} {a : Option Addr} {len cap : Nat} {d : DataW H} {p : List MemPlace} (h : DataW.Trod enc Tryz.prog W 0 (fun _ => true) true 22 (Value.slice a len cap) d p) : ∃ l : List Cl, len = l.length ∧ Cls W.heap.size W a l ∧ l.length ≤ maxLen := by
  obtain ⟨fuel, hf⟩ := h
  have ce : Tryz.prog.cellsOf 45 = 6 := by kernel_rfl
  have k3 : Tryz.prog.cellsOf 3 = 1 := by kernel_rfl
  have k4 : Tryz.prog.cellsOf 4 = 1 := by kernel_rfl
  have k39 : Tryz.prog.cellsOf 39 = 1 := by kernel_rfl
  have k43 : Tryz.prog.cellsOf 43 = 3 := by kernel_rfl
  have k40 : Tryz.prog.cellsOf 40 = 1 := by kernel_rfl
  have k41 : Tryz.prog.cellsOf 41 = 1 := by kernel_rfl
  rcases open_slice Tryz.underlying22 hf with ⟨hcs, _⟩ | ⟨x, l, c, m, n, D, Pl, hcs, _, hl, hm, hmm, _, hx⟩
  · simp [Value.cells] at hcs
    obtain ⟨rfl, rfl, rfl⟩ := hcs
    exact ⟨[], rfl, .inl rfl, Nat.zero_le _⟩
  · simp [Value.cells] at hcs
    obtain ⟨rfl, rfl, rfl⟩ := hcs
    have hmc : m = cap := by simpa using hmm
    subst hmc
    by_cases h0 : len = 0
    · exact ⟨[], h0, .inl rfl, Nat.zero_le _⟩
    · obtain ⟨b, off, spot⟩ := x
      have hspot : spot = none := by
        obtain ⟨cs', h1, _⟩ := hx 0 (by omega)
        rw [ce] at h1
        obtain ⟨_, hlen, hcell⟩ := World.cells?_some h1
        match cs', hlen with
        | v0 :: _, _ =>
          have := hcell 0 (by omega)
          rw [List.getElem?_cons_zero] at this
          simpa [Addr.add] using World.cell?_spot this
      subst hspot
      have key : ∀ i, i < len → ∃ q : Cl, ∃ a1 c1 ai ci ak ck, ClAt W.heap.size W q a1 ai ak ∧ ∀ j v, (clV q a1 c1 ai ci ak ck)[j]? = some v → W.cell? ⟨b, off + i * 6 + j, none⟩ = some v := by
        intro i hi
        obtain ⟨cs', h1, h2⟩ := hx i (by omega)
        rw [ce] at h1
        obtain ⟨_, hlen, hcell⟩ := World.cells?_some h1
        obtain ⟨xs, k, hk, hxy, _, hxl, hfl⟩ := DataW.trod_struct Tryz.underlying45 h2
        match xs, hxl, cs', hlen with
        | [y0, y1, y2, y3], _, [v0, v1, v2, v3, v4, v5], _ =>
          have g0 := hfl 0 _ rfl
          have g1 := hfl 1 _ rfl
          have g2 := hfl 2 _ rfl
          have g3 := hfl 3 _ rfl
          simp [k3, k39, k43] at g0 g1 g2 g3
          obtain ⟨xs', k', hk', hxy', _, hxl', hfl'⟩ := DataW.trod_struct Tryz.underlying43 g3
          match xs', hxl' with
          | [z0, z1, z2], _ =>
            have q0 := hfl' 0 _ rfl
            have q1 := hfl' 1 _ rfl
            have q2 := hfl' 2 _ rfl
            simp [k4, k40, k41] at q0 q1 q2
            have e0 := hcell 0 (by omega)
            have e1 := hcell 1 (by omega)
            have e2 := hcell 2 (by omega)
            have e3 := hcell 3 (by omega)
            have e4 := hcell 4 (by omega)
            have e5 := hcell 5 (by omega)
            rw [add_add, Go.WideShapes.add_plain] at e0 e1 e2 e3 e4 e5
            obtain ⟨n0, r0, _, w0⟩ := DataW.trod_int Tryz.underlying3 g0
            obtain ⟨n1, r1, _, w1⟩ := DataW.trod_int Tryz.underlying3 g1
            obtain ⟨a1, c1, ks, rfl, hks, hkl⟩ := ints_in g2
            obtain ⟨lf, r3, _⟩ := DataW.trod_bool Tryz.underlying4 q0
            obtain ⟨ai, ci, its, rfl, hit, hil⟩ := L6.its_in q1
            obtain ⟨ak, ck, kds, rfl, hkd, hdl⟩ := L6.kds_in q2
            simp at r0 r1 r3
            subst r0 r1 r3
            refine ⟨⟨n0, n1, ks, ⟨lf, its, kds⟩⟩, a1, c1, ai, ci, ak, ck, ⟨hks, ⟨hit, hkd⟩, under_irow hks, under_row hit, under_row hkd, ⟨hkl, hil, hdl⟩, ⟨i64_of w1, i64_of w0⟩⟩, fun j v hv => ?_⟩
            match j, hv with
            | 0, hv => simp [clV] at hv; subst hv; exact e0
            | 1, hv => simp [clV] at hv; subst hv; exact e1
            | 2, hv => simp [clV] at hv; subst hv; exact e2
            | 3, hv => simp [clV] at hv; subst hv; exact e3
            | 4, hv => simp [clV] at hv; subst hv; exact e4
            | 5, hv => simp [clV] at hv; subst hv; exact e5
            | j + 6, hv => simp [clV] at hv
      haveI : Inhabited Cl := ⟨⟨0, 0, [], L6.nd0⟩⟩
      obtain ⟨f, hf⟩ := choose_lt key
      refine ⟨(List.range len).map f, by simp, .inr ⟨b, off, rfl, ?_, fun i x hx' => ?_⟩, by simp; omega⟩
      · obtain ⟨a1, c1, ai, ci, ak, ck, _, h2⟩ := hf 0 (by omega)
        exact World.block_lt_of_cell? _ _ (h2 0 _ rfl)
      · obtain ⟨hi, rfl⟩ := L6.range_get f hx'
        exact hf i hi
end Go.Proofs.YteokbefcdpjkaaaGreatDoor
