/- The program's Read. -/
import Derived.Test.YtmpgaecnibakdaaDoorSl
namespace Go.Proofs.YtmpgaecnibakdaaDoor
open Go.ChangeShapes Go.WideShapes Go.ChangeAt Go.RowKit
attribute [local go_sem] Oper.semAt_some

def readA (l : List Pc) (size off n : Int) : List UInt8 × Int := if chkR l size ≠ 0 then ([], 21) else if off < 0 ∨ n < 0 ∨ 4096 < n then ([], 1) else (readR l size off n, 0)
theorem chk_two (l : List Pc) (size : Int) : chkR l size = 0 ∨ chkR l size = 21 := by
  unfold chkR
  split
  · exact .inl rfl
  · exact .inr rfl
theorem readA_form {l : List Pc} {size off n : Int} (h : chkR l size ≠ 0) : readA l size off n = ([], 21) := if_pos h
theorem readA_arg {l : List Pc} {size off n : Int} (h : chkR l size = 0) (h2 : off < 0 ∨ n < 0 ∨ 4096 < n) : readA l size off n = ([], 1) := by
  unfold readA
  rw [if_neg (by omega), if_pos h2]
theorem readA_ok {l : List Pc} {size off n : Int} (h : chkR l size = 0) (h2 : ¬ (off < 0 ∨ n < 0 ∨ 4096 < n)) : readA l size off n = (readR l size off n, 0) := by
  unfold readA
  rw [if_neg (by omega), if_neg h2]
def textA (x : List UInt8 × Int) : Value := .tuple #[.string (tx x.1), .int .i64 x.2]
theorem lay_any (b t : Nat) (l : List UInt8) (cap : Nat) (d : List UInt8) (k : Int) (w : World) (h : Bk w b t l) (hk : k < 0 ∨ k < l.length) (hc : l.length ≤ cap) (hd : -k ≤ d.length) (hdl : d.length ≤ 1000000) :
    Calls Tryd.prog 27 #[.slice (some ⟨b, 0, none⟩) l.length cap, .string (tx d), .int .i64 k] w fun e w' => e = .returned (.tuple #[]) ∧ w' = putB w b (layR l d k) := by
  by_cases h0 : k < 0
  · obtain ⟨m, rfl⟩ : ∃ m : Nat, k = -(m : Int) := ⟨(-k).toNat, by omega⟩
    exact lay_neg b t l cap d m w h (by omega) (by omega) hdl
  · obtain ⟨m, rfl⟩ : ∃ m : Nat, k = (m : Int) := ⟨k.toNat, by omega⟩
    exact lay_pos b t l cap d m w h (by omega) hc
theorem layAll_snoc (f : Int) (b : List UInt8) (L : List Pc) (p : Pc) : layAll f b (L ++ [p]) = layR (layAll f b L) p.2 (p.1 * 64 - f) := by
  unfold layAll
  rw [List.foldl_append]
  rfl
theorem take_snoc {α : Type} {l : List α} {k : Nat} {x : α} (h : l[k]? = some x) : l.take (k + 1) = l.take k ++ [x] := by
  rw [List.take_add_one, h]
  rfl

set_option maxHeartbeats 4000000 in
set_option maxRecDepth 10000 in
theorem read_any (a : Option Addr) (cap : Nat) (l : List Pc) (size off n : Int) (w : World) (hr : Ps w a l) (hcap : l.length ≤ cap) (hl : l.length ≤ 100000) (hd : ∀ p ∈ l, p.2.length ≤ 1000000) (o1 : off ≤ 9223372036854775807) :
    Calls Tryd.prog 11 #[.slice a l.length cap, .int .i64 size, .int .i64 off, .int .i64 n] w fun e w' => e = .returned (textA (readA l size off n)) ∧ Below w.heap.size w w' := by
  have HC := hide (chk_any a cap l size w hr hl hd)
  by_cases hc : chkR l size = 0
  case neg =>
    rw [readA_form hc]
    have h21 : chkR l size = 21 := (chk_two l size).resolve_left hc
    rw [h21] at HC
    clear hr hc h21
    go_enter Tryd.func11, Tryd.ntmps11
    go_wp2_with fail
    refine (unhide HC).mono ?_
    rintro e w1 ⟨rfl, hb1⟩
    have HB1 := hide hb1
    clear hb1 HC
    go_wp2
    go_ret2
    exact ⟨rfl, unhide HB1⟩
  have hri := right_chk hc
  by_cases ha : off < 0 ∨ n < 0 ∨ 4096 < n
  · rw [readA_arg hc ha]
    rw [hc] at HC
    clear hr hri hc
    by_cases a1 : off < 0
    · go_enter Tryd.func11, Tryd.ntmps11
      go_wp2_with fail
      refine (unhide HC).mono ?_
      rintro e w1 ⟨rfl, hb1⟩
      have HB1 := hide hb1
      clear hb1 HC ha
      go_wp2
      go_ret2
      exact ⟨rfl, unhide HB1⟩
    · by_cases a2 : n < 0
      · go_enter Tryd.func11, Tryd.ntmps11
        go_wp2_with fail
        refine (unhide HC).mono ?_
        rintro e w1 ⟨rfl, hb1⟩
        have HB1 := hide hb1
        clear hb1 HC ha
        go_wp2
        go_ret2
        exact ⟨rfl, unhide HB1⟩
      · have a3 : 4096 < n := by omega
        go_enter Tryd.func11, Tryd.ntmps11
        go_wp2_with fail
        refine (unhide HC).mono ?_
        rintro e w1 ⟨rfl, hb1⟩
        have HB1 := hide hb1
        clear hb1 HC ha
        go_wp2
        go_ret2
        exact ⟨rfl, unhide HB1⟩
  rw [readA_ok hc ha]
  rw [hc] at HC
  have a1 : ¬ off < 0 := by omega
  have a2 : ¬ n < 0 := by omega
  have a3 : ¬ 4096 < n := by omega
  have s0 := hri.lo
  have s1 := hri.hi
  obtain ⟨f, hf⟩ : ∃ f, f = min off size := ⟨_, rfl⟩
  obtain ⟨t, ht⟩ : ∃ t, t = f + min n (size - f) := ⟨_, rfl⟩
  have f0 : 0 ≤ f := by omega
  have ft : f ≤ t := by omega
  have t1 : t ≤ 4611686018427387904 := by omega
  obtain ⟨N, hN⟩ : ∃ N : Nat, t - f = (N : Int) := ⟨(t - f).toNat, by omega⟩
  have hN1 : N ≤ 4096 := by omega
  have HBL := hide (fun W => below_any size off n W s0 s1 (by omega) o1 (by omega) (by omega))
  rw [← hf, ← ht] at HBL
  have HT := hide (fun W (hW : Below w.heap.size w W) => touched_any a cap l f t W (hr.below hW) hri.so (by omega) f0 ft t1)
  have HE : Hid (readR l size off n = layAll f (List.replicate N 0) ((l.take (cntB l ((t + 63) / 64))).drop (cntB l (f / 64)))) := by
    show _ = _
    rw [← read_eq hri (by omega) (by omega) hf ht, readP, hN]
    rfl
  have hcm : cntB l (f / 64) ≤ cntB l ((t + 63) / 64) := cnt_mono (by omega)
  have hcl := cnt_le l ((t + 63) / 64)
  have HM := hide (fun p => mem_mid hri.so (i := f / 64) (j := (t + 63) / 64) (by omega) p)
  have HOK := hide hri.ok
  have hmk := fun W : World => make_run N (by omega) W
  rw [← hN] at hmk
  have hMK := hide hmk
  obtain ⟨i, hi⟩ : ∃ i, i = cntB l (f / 64) := ⟨_, rfl⟩
  obtain ⟨j, hj⟩ : ∃ j, j = cntB l ((t + 63) / 64) := ⟨_, rfl⟩
  rw [← hi, ← hj] at HT HE hcm HM
  rw [← hj] at hcl
  obtain ⟨M, hM⟩ : ∃ M, M = (l.take j).drop i := ⟨_, rfl⟩
  rw [← hM] at HE HM
  obtain ⟨m, hm⟩ : ∃ m, j - i = m := ⟨_, rfl⟩
  have hMl : M.length = m := by rw [hM, List.length_drop, List.length_take]; omega
  have HPM : Hid (∀ W A, A = restA a cap i → Below w.heap.size w W → Ps W A M) := fun W A hA hW => by
    rw [hM, hA]
    exact Tw.drop (Tw.take (hr.below hW) j) (by rw [List.length_take]; omega)
  have HMB : Hid (∀ p ∈ M, 0 ≤ p.1 ∧ p.1 ≤ 72057594037927936 ∧ p.2.length = 64 ∧ -64 < p.1 * 64 - f ∧ (p.1 * 64 - f < 0 ∨ p.1 * 64 - f < (N : Int))) := fun p hp => by
    have h1 := (unhide HM p).1 hp
    have h2 := unhide HOK p h1.1
    have h3 := h2.2.1
    exact ⟨h2.1, by omega, h2.2.2.1, by omega, by omega⟩
  have HL : Hid (∀ k, (layAll f (List.replicate N 0) (M.take k)).length = N) := fun k => by
    rw [layAll_length _ _ _ (fun p hp => by
      have := unhide HMB p (List.mem_of_mem_take hp)
      rw [List.length_replicate]
      omega), List.length_replicate]
  rw [unhide HE]
  have HN := hide hN
  have hcapj : j ≤ cap := by omega
  have hml : m ≤ 100000 := by omega
  clear hr hri hc hf ht hi hj hM HE hmk ha hN HM HOK
  go_enter Tryd.func11, Tryd.ntmps11
  go_wp2_with fail
  refine (unhide HC).mono ?_
  rintro e w1 ⟨rfl, hb1⟩
  have HB1 := hide hb1
  clear hb1 HC
  go_wp2_with fail
  refine (unhide HBL _).mono ?_
  rintro e w2 ⟨rfl, rfl⟩
  have hmk := unhide hMK w2
  have HK := hide (mkB_bk N w2)
  have HB2 : Hid (Below w.heap.size w (mkB N w2)) := below_then (unhide HB1) (b_alloc w2 _)
  have hs2 := (unhide HB1).size
  clear hMK HBL
  go_wp2_with fail
  refine (unhide HT _ (unhide HB2)).mono ?_
  rintro e w3 ⟨rfl, hb3⟩
  have HB3 := hide (below_then (unhide HB2) hb3)
  have HK3 := hide ((unhide HK).below hb3)
  obtain ⟨g, hg⟩ : ∃ g, g = w2.heap.size := ⟨_, rfl⟩
  rw [← hg] at HK3 hs2 ⊢
  clear hb3 HB2 HK HB1 hmk hg HT
  go_wp2_with (refine slice_part rfl _ _ _ rfl rfl rfl rfl hcm hcapj hm ?_; intro A c hA hc; have HPA := hide (fun W => unhide HPM W A hA); clear hA hc)
  clear HPM hcm hcapj hm
  go_loopw [57] (fun s wr => ∃ k : Nat, k ≤ m ∧ s = .int .i64 k ∧ Bk wr g 5 (layAll f (List.replicate N 0) (M.take k)) ∧ Below w.heap.size w wr) (fun s _ => m - (intOf s).toNat)
  case atStart => exact ⟨0, Nat.zero_le _, rfl, unhide HK3, unhide HB3⟩
  case round =>
    obtain ⟨k, hk, rfl, hbk, hb⟩ := hrel
    by_cases hlt : k < m
    · obtain ⟨⟨ix, da⟩, hx⟩ := get_some (show k < M.length by omega)
      obtain ⟨b, o, hAe, c0, c1, c2⟩ := (unhide HPA _ hb).get hx
      subst hAe
      have hlt' : (k : Int) < (m : Int) := by omega
      obtain ⟨x0, x1, x2, x3, x4⟩ := unhide HMB _ (List.mem_of_getElem? hx)
      simp only at x0 x1 x2 x3 x4
      have hBl := unhide HL k
      have HNX : Hid (layAll f (List.replicate N 0) (M.take (k + 1)) = layR (layAll f (List.replicate N 0) (M.take k)) da (ix * 64 - f)) := by
        show _ = _
        rw [take_snoc hx, layAll_snoc]
      generalize layAll f (List.replicate N 0) (M.take k) = B at *
      have T1 := hide (fun W => begin_any ix (tx da) W x0 x1)
      have hw : IntKind.i64.wrap (ix * 64 - f) = ix * 64 - f := by rw [IntKind.wrap_i64]; omega
      have T2 : Hid (∀ W, Bk W g 5 B → Calls Tryd.prog 27 #[.slice (some ⟨g, 0, none⟩) N N, .string (tx da), .int .i64 (IntKind.i64.wrap (ix * 64 - f))] W fun e w' => e = .returned (.tuple #[]) ∧ w' = putB W g (layR B da (ix * 64 - f))) := fun W h => by
        have := lay_any g 5 B N da (ix * 64 - f) W h (by omega) (by omega) (by omega) (by omega)
        rw [hBl] at this
        rw [hw]
        exact this
      clear hw
      have b1 := b_alloc wr (.cells #[.int .i64 ix, .string (tx da)] 58)
      have n1 := heap_alloc_new wr (.cells #[.int .i64 ix, .string (tx da)] 58)
      have hb1 := below_then hb b1
      have hk1 := hbk.below b1
      have hgq : wr.heap.size ≠ g := by have := hbk.lt; omega
      clear hx hb hbk
      generalize hW : wr.alloc (.cells #[.int .i64 ix, .string (tx da)] 58) = w4 at *
      obtain ⟨q, hq⟩ : ∃ q, q = wr.heap.size := ⟨_, rfl⟩
      rw [← hq] at n1 hgq
      have d0 : w4.drew.cell? ⟨q, 0, none⟩ = some (.int .i64 ix) := (cell_of_row w4 q 0 _ _ _ n1).trans rfl
      have d1 : w4.drew.cell? ⟨q, 1, none⟩ = some (.string (tx da)) := (cell_of_row w4 q 1 _ _ _ n1).trans rfl
      have H0 : Hid (Below w.heap.size w w4.drew ∧ w4.drew.cell? ⟨q, 0, none⟩ = some (.int .i64 ix) ∧ w4.drew.cell? ⟨q, 1, none⟩ = some (.string (tx da))) := ⟨hb1.drew, d0, d1⟩
      have KP : Hid (∀ wa wb, (Below w.heap.size w wa ∧ wa.cell? ⟨q, 0, none⟩ = some (.int .i64 ix) ∧ wa.cell? ⟨q, 1, none⟩ = some (.string (tx da))) → Below wa.heap.size wa wb → (Below w.heap.size w wb ∧ wb.cell? ⟨q, 0, none⟩ = some (.int .i64 ix) ∧ wb.cell? ⟨q, 1, none⟩ = some (.string (tx da)))) := fun wa wb h hb => ⟨below_then h.1 hb, cell_keep h.2.1 hb, cell_keep h.2.2 hb⟩
      have KC : Hid (∀ wa l, (Below w.heap.size w wa ∧ wa.cell? ⟨q, 0, none⟩ = some (.int .i64 ix) ∧ wa.cell? ⟨q, 1, none⟩ = some (.string (tx da))) → (Below w.heap.size w (putB wa g l) ∧ (putB wa g l).cell? ⟨q, 0, none⟩ = some (.int .i64 ix) ∧ (putB wa g l).cell? ⟨q, 1, none⟩ = some (.string (tx da)))) := fun wa l h =>
        ⟨putB_below h.1 hs2 l, (World.cell?_of_block (putB_other hgq l)).trans h.2.1, (World.cell?_of_block (putB_other hgq l)).trans h.2.2⟩
      have HR := hide (show Bk w4.drew g 5 B from hk1)
      clear n1 hb1 hk1 b1 d0 d1 HB3 HK3
      have y0 : 0 ≤ ix * 64 := by omega
      have y1 : ix * 64 ≤ 4611686018427387904 := by omega
      have y2 : -9223372036854775808 ≤ ix * 64 - f := by omega
      have y3 : ix * 64 - f ≤ 9223372036854775807 := by omega
      go_wp2
      rw [← hq]
      clear hW hq
      go_region_held3 (fun w' => Below w.heap.size w w' ∧ w'.cell? ⟨q, 0, none⟩ = some (.int .i64 ix) ∧ w'.cell? ⟨q, 1, none⟩ = some (.string (tx da)))
        (first | (with_reducible assumption) | (with_reducible exact unhide H0) | (with_reducible exact unhide KC _ _ H1))
        (first
          | (go_at_call 28; with_reducible refine (unhide T1 _).mono ?_; rintro e w6 ⟨rfl, hb⟩; have H1 := unhide KP _ _ (unhide H0) hb; have HR1 := hide ((unhide HR).below hb); clear hb)
          | (go_at_call 27; with_reducible refine (unhide T2 _ (unhide HR1)).mono ?_; rintro e w7 ⟨rfl, rfl⟩))
      have HK9 := hide (Bk.put (unhide HR1) (layR B da (ix * 64 - f)))
      have HB9 := hide (unhide KC _ (layR B da (ix * 64 - f)) H1).1
      clear H1 HR1 H0 KP KC HR T1 T2
      go_wp2
      go_roundw
      case rel => exact ⟨k + 1, by omega, by go_num, by rw [unhide HNX]; exact unhide HK9, unhide HB9⟩
      case measure => simp [intOf]; omega
    · have hlt' : ¬ (k : Int) < (m : Int) := by omega
      obtain rfl : k = m := by omega
      have hBl := unhide HL k
      rw [show M.take k = M by rw [← hMl, List.take_length]] at hbk hBl
      have hconv := conv_bk wr g 5 _ hbk N
      rw [hBl] at hconv
      have HBB := hide hb
      clear hb hbk HB3 HK3
      go_wp2
      go_ret2
      exact ⟨rfl, unhide HBB⟩
end Go.Proofs.YtmpgaecnibakdaaDoor
