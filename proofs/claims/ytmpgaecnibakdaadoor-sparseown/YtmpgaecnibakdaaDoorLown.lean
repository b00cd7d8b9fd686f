/- The walk of the law SparseOwn. -/
import Derived.Test.YtmpgaecnibakdaaDoorLasks
namespace Go.Proofs.YtmpgaecnibakdaaDoor
open Go.ChangeShapes Go.WideShapes Go.ChangeAt Go.RowKit
attribute [local go_sem] Oper.semAt_some

/-- a row of n pieces of one's own, whatever they are -/
def OwnX (w : World) (v : Value) (n : Nat) : Prop := ∃ xs, w.ownsRow 0 58 2 v n xs
theorem OwnX.of {B : Nat} {w : World} {v : Value} {l : List Pc} (h : OwnP B w v l) : OwnX w v l.length := ⟨_, ownsRow_base h (Nat.zero_le _)⟩
theorem OwnX.below {w w' : World} {v : Value} {n : Nat} (h : OwnX w v n) (hb : Below w.heap.size w w') : OwnX w' v n := by
  obtain ⟨xs, h⟩ := h
  exact ⟨xs, ownsRow_below h hb⟩
theorem OwnX.other {w : World} {v : Value} {n : Nat} (h : OwnX w v n) {p : Addr} (hne : ∀ g, v.ownBlock = some g → g ≠ p.block) (u : Value) : OwnX (w.setCell p u) v n := by
  obtain ⟨xs, h⟩ := h
  exact ⟨xs, ownsRow_same h (fun g hg => Below.heap_setCell w p u g (hne g hg))⟩
theorem OwnP.other {B : Nat} {w : World} {v : Value} {l : List Pc} (h : OwnP B w v l) {p : Addr} (hne : ∀ g, v.ownBlock = some g → g ≠ p.block) (u : Value) : OwnP B (w.setCell p u) v l :=
  ownsRow_same h (fun g hg => Below.heap_setCell w p u g (hne g hg))
theorem OwnX.blk {w : World} {a : Option Addr} {n c : Nat} (h : OwnX w (.slice a n c) n) (hn : 0 < n) : ∃ b, a = some ⟨b, 0, none⟩ := by
  obtain ⟨xs, _, h⟩ := h
  rcases h with ⟨_, h0⟩ | ⟨g, cap, cur, hv, _⟩
  · omega
  · injection hv with h1 _ _
    exact ⟨g, h1⟩
theorem OwnX.cell {w : World} {b n c : Nat} (h : OwnX w (.slice (some ⟨b, 0, none⟩) n c) n) {i : Nat} (hi : i < n) : ∃ u, w.cell? ⟨b, i * 2, none⟩ = some u ∧ w.frozen? ⟨b, i * 2, none⟩ = false := by
  obtain ⟨xs, h⟩ := h
  have hl := h.1
  exact ⟨xs[i * 2]'(by omega), (World.ownsRow.cellAt h (i * 2) (by omega)).trans (List.getElem?_eq_getElem (by omega)), World.ownsRow.frozenAt h _⟩
theorem OwnX.set {w : World} {b n c : Nat} (h : OwnX w (.slice (some ⟨b, 0, none⟩) n c) n) {i : Nat} (_hi : i < n) (u : Value) : OwnX (w.setCell ⟨b, i * 2, none⟩ u) (.slice (some ⟨b, 0, none⟩) n c) n := by
  obtain ⟨xs, h⟩ := h
  exact ⟨_, (World.ownsRow.stored h (i * 2) u).1⟩

set_option maxHeartbeats 16000000 in
set_option maxRecDepth 10000 in
theorem own_walk (l : List Pc) (a : Option Addr) (cap : Nat) (size : Int) (s : Stp) (w : World) (hr : Ps w a l) (hl : l.length ≤ 9223372036854775807) (hs : s.Ok) :
    Calls Tryd.prog 8 #[.slice a l.length cap, .int .i64 size, .agg #[.int .i64 s.k, .int .i64 s.o, .int .i64 s.n, .string (tx s.d)]] w fun e w' => e = .returned (.bool true) ∧ Below w.heap.size w w' := by
  have ho2 := hs.o.2
  have hn2 := hs.n.2
  clear hs
  have HA := hide (fun W => awake_any W)
  have b0 := b_alloc w (.cells #[.int .i64 s.k, .int .i64 s.o, .int .i64 s.n, .string (tx s.d)] 24)
  have n0 := heap_alloc_new w (.cells #[.int .i64 s.k, .int .i64 s.o, .int .i64 s.n, .string (tx s.d)] 24)
  have hr0 := hr.below b0
  have HBW := hide b0
  generalize hW : w.alloc (.cells #[.int .i64 s.k, .int .i64 s.o, .int .i64 s.n, .string (tx s.d)] 24) = w0 at *
  obtain ⟨q, hq⟩ : ∃ q, q = w.heap.size := ⟨_, rfl⟩
  have hin : StepIn w0 q s := by
    rw [hq]
    exact ⟨(cell_of_row w0 _ 0 _ _ _ n0).trans rfl, (cell_of_row w0 _ 1 _ _ _ n0).trans rfl, (cell_of_row w0 _ 2 _ _ _ n0).trans rfl, (cell_of_row w0 _ 3 _ _ _ n0).trans rfl⟩
  have KS : Hid (∀ W, Below w0.heap.size w0 W → StepIn W q s) := fun W hW => ⟨cell_keep hin.1 hW, cell_keep hin.2.1 hW, cell_keep hin.2.2.1 hW, cell_keep hin.2.2.2 hW⟩
  have HL := hide hr0
  have HG := hide (fun W (hW : Below w0.heap.size w0 W) => great_any a cap l W (hr0.below hW) hl)
  clear hr b0 n0 hin
  by_cases hg : greatB l = true
  · rw [hg] at HG
    clear hg HL hr0
    have HB0 := hide (Below.refl w0.heap.size w0)
    go_enter Tryd.func8, Tryd.ntmps8
    go_wp2_with fail
    rw [← hq]
    clear hW hq
    refine (unhide HA _).mono ?_
    rintro e w1 ⟨rfl, hb⟩
    have HB1 := hide hb
    obtain ⟨c0, c1, c2, c3⟩ := unhide KS _ hb
    clear hb HA
    go_wp2_with fail
    refine (unhide HG _ (unhide HB1)).mono ?_
    rintro e w1 ⟨rfl, rfl⟩
    go_wp2
    go_ret
    exact ⟨rfl, below_then (unhide HBW) (unhide HB1)⟩
  obtain ⟨hl2, hd⟩ := great_no hg
  rw [Bool.not_eq_true] at hg
  rw [hg] at HG
  clear hg hl
  by_cases g0 : (4096 : Int) < ((tx s.d).size : Int)
  · clear HL hr0
    have HB0 := hide (Below.refl w0.heap.size w0)
    go_enter Tryd.func8, Tryd.ntmps8
    go_wp2_with fail
    rw [← hq]
    clear hW hq
    refine (unhide HA _).mono ?_
    rintro e w1 ⟨rfl, hb⟩
    have HB1 := hide hb
    obtain ⟨c0, c1, c2, c3⟩ := unhide KS _ hb
    clear hb HA
    go_wp2_with fail
    refine (unhide HG _ (unhide HB1)).mono ?_
    rintro e w1 ⟨rfl, rfl⟩
    go_wp2
    go_ret
    exact ⟨rfl, below_then (unhide HBW) (unhide HB1)⟩
  have hsz := tx_size s.d
  have hdd : ∀ p ∈ l, p.2.length ≤ 10000 := fun p hp => by have := hd p hp; omega
  have HO := hide (fun W (hW : Below w0.heap.size w0 W) => own_any a cap l W (hr0.below hW) (by omega))
  have HWR := hide (fun W A C (hW : Ps W A l) (hC : l.length ≤ C) => write_any A C l size s.o s.d W hW hC (by omega) hdd ho2 (by omega))
  have HTR := hide (fun W A C (hW : Ps W A l) (hC : l.length ≤ C) => trunc_any A C l size s.n W hW hC (by omega) hdd)
  have HPU := hide (fun W A C (hW : Ps W A l) (hC : l.length ≤ C) => punch_any A C l size s.o s.n W hW hC (by omega) hdd ho2 hn2)
  unfold Ans3 at HWR HTR
  unfold Ans2 at HPU
  generalize writeA l size s.o s.d = XW at *
  generalize truncA l size s.n = XT at *
  generalize punchA l size s.o s.n = XP at *
  have HL2 := hide hl2
  clear hr0 hd hdd hsz
  have HB0 := hide (Below.refl w0.heap.size w0)
  go_enter Tryd.func8, Tryd.ntmps8
  go_wp2_with fail
  rw [← hq]
  clear hW hq
  refine (unhide HA _).mono ?_
  rintro e w1 ⟨rfl, hb⟩
  have HB1 := hide hb
  obtain ⟨c0, c1, c2, c3⟩ := unhide KS _ hb
  clear hb HA
  go_wp2_with fail
  refine (unhide HG _ (unhide HB1)).mono ?_
  rintro e w1 ⟨rfl, rfl⟩
  clear HG
  go_wp2_with fail
  clear c0 c1 c2 c3
  refine (unhide HO _ (unhide HB1)).mono ?_
  rintro e w3 ⟨a3, c3, rfl, ho, hb⟩
  have HO3 := hide (ho.base (unhide HB1).size)
  have HB3 := hide (below_then (unhide HB1) hb)
  have hs3 := (unhide HB3).size
  clear ho hb HB1 HO
  go_wp2_with (first
    | (at_builtin; refine app_pc 7 [98, 101, 104, 105, 110, 100] rfl _ _ rfl rfl rfl hs3 (unhide HO3) (by omega) ?_; intro a4 c4 w4 ho4 hb4; have hjc : l.length ≤ c4 := (by have := (show OwnP w0.heap.size w4 (.slice a4 (l.length + 1) c4) (l ++ [(7, [98, 101, 104, 105, 110, 100])]) from ho4).cap; rw [List.length_append] at this; simp at this; omega); have HO4 := hide ho4; have HB4 := hide ((unhide HB3).trans hb4); clear ho4 hb4; obtain ⟨c0, c1, c2, c3⟩ := unhide KS _ (unhide HB4))
    | (refine slice_front rfl _ _ rfl rfl rfl hjc ?_))
  have hlm : (l ++ [((7, [98, 101, 104, 105, 110, 100]) : Pc)]).length = l.length + 1 := by simp
  obtain ⟨m, cm, hv, hBm⟩ := own_block (unhide HO4) (by rw [hlm]; omega)
  rw [hlm] at hv
  injection hv with hv1 hv2 hv3
  subst hv1 hv3
  have hcap4 : l.length + 1 ≤ c4 := by have := (unhide HO4).cap; rw [hlm] at this; exact this
  have hle : l.length ≤ c4 := by omega
  have HP4 : Hid (Ps w4 (some ⟨m, 0, none⟩) l) := by
    have h := OwnP.ps (unhide HO4)
    have := Tw.take h l.length
    rw [List.take_left' rfl] at this
    exact this
  have HEM4 := hide (fun g hg => (World.ownsRow.lt (unhide HO4) g hg).2)
  have N4 := (unhide HB4).size
  refine (unhide HWR _ _ _ (unhide HP4) hle).mono ?_
  rintro e w5 ⟨⟨v, rfl, ho⟩, hb⟩
  have HB5 := hide (below_then (unhide HB4) hb)
  have HP5 := hide ((unhide HP4).below hb)
  have HO5 := hide ((unhide HO4).below hb)
  have HEW5 := hide (fun g hg => World.ownsRow.lt ho g hg)
  obtain ⟨bw, dw, rfl⟩ := ho.form
  have hNw := ho.most
  have HW5 := hide (OwnX.of ho)
  have N5 := hb.size
  clear ho hb HP4 HO4 HB4 c0 c1 c2 c3
  obtain ⟨c0, c1, c2, c3⟩ := unhide KS _ (unhide HB5)
  go_wp2_with fail
  refine (unhide HTR _ _ _ (unhide HP5) hle).mono ?_
  rintro e w6 ⟨⟨v, rfl, ho⟩, hb⟩
  have HB6 := hide (below_then (unhide HB5) hb)
  have HP6 := hide ((unhide HP5).below hb)
  have HO6 := hide ((unhide HO5).below hb)
  have HW6 := hide ((unhide HW5).below hb)
  have HET6 := hide (fun g hg => World.ownsRow.lt ho g hg)
  obtain ⟨bt, dt, rfl⟩ := ho.form
  have hNt := ho.most
  have HT6 := hide (OwnX.of ho)
  have N6 := hb.size
  clear ho hb HP5 HO5 HB5 HW5 c0 c1 c2 c3
  obtain ⟨c0, c1, c2, c3⟩ := unhide KS _ (unhide HB6)
  go_wp2_with fail
  refine (unhide HPU _ _ _ (unhide HP6) hle).mono ?_
  rintro e w7 ⟨⟨v, rfl, ho⟩, hb⟩
  have HB7 := hide (below_then (unhide HB6) hb)
  have HO7 := hide ((unhide HO6).below hb)
  have HW7 := hide ((unhide HW6).below hb)
  have HT7 := hide ((unhide HT6).below hb)
  have HEP7 := hide (fun g hg => World.ownsRow.lt ho g hg)
  obtain ⟨bp, dp, rfl⟩ := ho.form
  have hNp := ho.most
  have HP7 := hide (OwnX.of ho)
  have N7 := hb.size
  clear ho hb HP6 HO6 HB6 HW6 HT6 c0 c1 c2 c3
  obtain ⟨nw, hnw⟩ : ∃ n, n = XW.1.length := ⟨_, rfl⟩
  obtain ⟨nt, hnt⟩ : ∃ n, n = XT.1.length := ⟨_, rfl⟩
  obtain ⟨np, hnp⟩ : ∃ n, n = XP.1.length := ⟨_, rfl⟩
  rw [← hnw] at hNw HW7 HEW5 ⊢
  rw [← hnt] at hNt HT7 HET6 ⊢
  rw [← hnp] at hNp HP7 HEP7 ⊢
  have Hw := hide (unhide HW7)
  have Ht := hide (unhide HT7)
  have Hp := hide (unhide HP7)
  obtain ⟨LM, hLM⟩ : ∃ L, L = l ++ [((7, [98, 101, 104, 105, 110, 100]) : Pc)] := ⟨_, rfl⟩
  have HM : Hid (OwnP 0 w7 (.slice (some ⟨m, 0, none⟩) (l.length + 1) c4) LM) := by rw [hide_eq, hLM]; exact (unhide HO7).base (Nat.zero_le _)
  have HB := hide (unhide HB7)
  have HEM : Hid (∀ g, (Value.slice (some ⟨m, 0, none⟩) (l.length + 1) c4).ownBlock = some g → g < w4.heap.size) := unhide HEM4
  have HEw : Hid (∀ g, (Value.slice bw nw dw).ownBlock = some g → w4.heap.size ≤ g ∧ g < w5.heap.size ∧ w0.heap.size ≤ g) := fun g hg => by have := unhide HEW5 g hg; omega
  have HEt : Hid (∀ g, (Value.slice bt nt dt).ownBlock = some g → w5.heap.size ≤ g ∧ g < w6.heap.size ∧ w0.heap.size ≤ g) := fun g hg => by have := unhide HET6 g hg; omega
  have HEp : Hid (∀ g, (Value.slice bp np dp).ownBlock = some g → w6.heap.size ≤ g ∧ g < w7.heap.size ∧ w0.heap.size ≤ g) := fun g hg => by have := unhide HEP7 g hg; omega
  have HNw := hide hNw
  have HNt := hide hNt
  have HNp := hide hNp
  have HLM := hide hLM
  have HN5 := hide N5
  have HN6 := hide N6
  have HMCAP := hide hcap4
  clear hnw hnt hnp HW7 HT7 HP7 HO7 HB7 HEM4 HEW5 HET6 HEP7 hNw hNt hNp hLM N4 N5 N6 N7 hle hcap4 hlm hBm hv2 HB0 HWR HTR HPU hs3 HO3 HB3 KS hjc
  go_wp2
  go_loopw [16] (fun s wr => ∃ i : Nat, i ≤ nw ∧ s = .int .i64 i ∧ OwnX wr (.slice bw nw dw) nw ∧ OwnX wr (.slice bt nt dt) nt ∧ OwnX wr (.slice bp np dp) np ∧ OwnP 0 wr (.slice (some ⟨m, 0, none⟩) (l.length + 1) c4) LM ∧ Below w0.heap.size w0 wr) (fun s _ => nw - (intOf s).toNat)
  case atStart => exact ⟨0, Nat.zero_le _, rfl, unhide Hw, unhide Ht, unhide Hp, unhide HM, unhide HB⟩
  case round =>
    obtain ⟨i, hi, rfl, hw, ht, hp, hm, hb⟩ := hrel
    clear Hw Ht Hp HM HB
    have Hw := hide hw
    have Ht := hide ht
    have Hp := hide hp
    have HM := hide hm
    have HB := hide hb
    by_cases hlt : i < nw
    · obtain ⟨b, hbb⟩ := hw.blk (by omega)
      obtain ⟨u, cu, fu⟩ := (hbb ▸ hw).cell hlt
      have hlt' : (i : Int) < (nw : Int) := by omega
      have HLT := hide hlt
      have hnm := unhide HNw
      obtain ⟨e1, e2, e3⟩ := unhide HEw b (by rw [hbb]; rfl)
      have Kw := hide ((hbb ▸ hw).set hlt (.int .i64 (-1)))
      have Kt := hide (ht.other (p := ⟨b, i * 2, none⟩) (fun g hg => by have := (unhide HEt g hg).1; have := e2; have := unhide HN5; have := unhide HN6; show g ≠ b; omega) (.int .i64 (-1)))
      have Kp := hide (hp.other (p := ⟨b, i * 2, none⟩) (fun g hg => by have := (unhide HEp g hg).1; have := e2; have := unhide HN5; have := unhide HN6; show g ≠ b; omega) (.int .i64 (-1)))
      have KM := hide (hm.other (p := ⟨b, i * 2, none⟩) (fun g hg => by have := unhide HEM g hg; have := unhide HN5; have := unhide HN6; show g ≠ b; omega) (.int .i64 (-1)))
      have KB := hide (hb.setCell (p := ⟨b, i * 2, none⟩) e3 (.int .i64 (-1)))
      subst hbb
      clear hw ht hp hm hb Hw Ht Hp HM HB e1 e2 e3 hlt
      go_wp2
      go_roundw
      case rel => exact ⟨i + 1, by have := unhide HLT; omega, by go_num, unhide Kw, unhide Kt, unhide Kp, unhide KM, unhide KB⟩
      case measure => have := unhide HLT; simp [intOf] <;> omega
    · obtain rfl : nw = i := by omega
      have hlt' : ¬ (nw : Int) < (nw : Int) := by omega
      clear hlt hw ht hp hm hb Hw
      go_wp2
      go_loopw [17] (fun s wr => ∃ i : Nat, i ≤ nt ∧ s = .int .i64 i ∧ OwnX wr (.slice bt nt dt) nt ∧ OwnX wr (.slice bp np dp) np ∧ OwnP 0 wr (.slice (some ⟨m, 0, none⟩) (l.length + 1) c4) LM ∧ Below w0.heap.size w0 wr) (fun s _ => nt - (intOf s).toNat)
      case atStart => exact ⟨0, Nat.zero_le _, rfl, unhide Ht, unhide Hp, unhide HM, unhide HB⟩
      case round =>
        obtain ⟨i, hi, rfl, ht, hp, hm, hb⟩ := hrel
        clear Ht Hp HM HB
        have Ht := hide ht
        have Hp := hide hp
        have HM := hide hm
        have HB := hide hb
        by_cases hlt : i < nt
        · obtain ⟨b, hbb⟩ := ht.blk (by omega)
          obtain ⟨u, cu, fu⟩ := (hbb ▸ ht).cell hlt
          have hlt' : (i : Int) < (nt : Int) := by omega
          have HLT := hide hlt
          have hnm := unhide HNt
          obtain ⟨e1, e2, e3⟩ := unhide HEt b (by rw [hbb]; rfl)
          have Kt := hide ((hbb ▸ ht).set hlt (.int .i64 (-1)))
          have Kp := hide (hp.other (p := ⟨b, i * 2, none⟩) (fun g hg => by have := (unhide HEp g hg).1; have := e2; have := unhide HN5; have := unhide HN6; show g ≠ b; omega) (.int .i64 (-1)))
          have KM := hide (hm.other (p := ⟨b, i * 2, none⟩) (fun g hg => by have := unhide HEM g hg; have := unhide HN5; have := unhide HN6; show g ≠ b; omega) (.int .i64 (-1)))
          have KB := hide (hb.setCell (p := ⟨b, i * 2, none⟩) e3 (.int .i64 (-1)))
          subst hbb
          clear ht hp hm hb Ht Hp HM HB e1 e2 e3 hlt
          go_wp2
          go_roundw
          case rel => exact ⟨i + 1, by have := unhide HLT; omega, by go_num, unhide Kt, unhide Kp, unhide KM, unhide KB⟩
          case measure => have := unhide HLT; simp [intOf] <;> omega
        · obtain rfl : nt = i := by omega
          have hlt' : ¬ (nt : Int) < (nt : Int) := by omega
          clear hlt ht hp hm hb Ht
          go_wp2
          go_loopw [18] (fun s wr => ∃ i : Nat, i ≤ np ∧ s = .int .i64 i ∧ OwnX wr (.slice bp np dp) np ∧ OwnP 0 wr (.slice (some ⟨m, 0, none⟩) (l.length + 1) c4) LM ∧ Below w0.heap.size w0 wr) (fun s _ => np - (intOf s).toNat)
          case atStart => exact ⟨0, Nat.zero_le _, rfl, unhide Hp, unhide HM, unhide HB⟩
          case round =>
            obtain ⟨i, hi, rfl, hp, hm, hb⟩ := hrel
            clear Hp HM HB
            have Hp := hide hp
            have HM := hide hm
            have HB := hide hb
            by_cases hlt : i < np
            · obtain ⟨b, hbb⟩ := hp.blk (by omega)
              obtain ⟨u, cu, fu⟩ := (hbb ▸ hp).cell hlt
              have hlt' : (i : Int) < (np : Int) := by omega
              have HLT := hide hlt
              have hnm := unhide HNp
              obtain ⟨e1, e2, e3⟩ := unhide HEp b (by rw [hbb]; rfl)
              have Kp := hide ((hbb ▸ hp).set hlt (.int .i64 (-1)))
              have KM := hide (hm.other (p := ⟨b, i * 2, none⟩) (fun g hg => by have := unhide HEM g hg; have := unhide HN5; have := unhide HN6; show g ≠ b; omega) (.int .i64 (-1)))
              have KB := hide (hb.setCell (p := ⟨b, i * 2, none⟩) e3 (.int .i64 (-1)))
              subst hbb
              clear hp hm hb Hp HM HB e1 e2 e3 hlt
              go_wp2
              go_roundw
              case rel => exact ⟨i + 1, by have := unhide HLT; omega, by go_num, unhide Kp, unhide KM, unhide KB⟩
              case measure => have := unhide HLT; simp [intOf] <;> omega
            · obtain rfl : np = i := by omega
              have hlt' : ¬ (np : Int) < (np : Int) := by omega
              clear hlt hp hm hb Hp
              have HLS := hide ((unhide HL).below (unhide HB))
              obtain ⟨K, hK⟩ : ∃ K : Nat, (l.length : Int) + 1 = (K : Int) := ⟨l.length + 1, by omega⟩
              have hK2 : l.length + 1 = K := by omega
              have HK := hide hK2
              have hcap4 : K ≤ c4 := by have := unhide HMCAP; omega
              have hKi : (l.length : Int) < (K : Int) := by omega
              have hlm : LM.length = l.length + 1 := by rw [unhide HLM]; simp
              have hgl : LM[l.length]? = some ((7, [98, 101, 104, 105, 110, 100]) : Pc) := by rw [unhide HLM]; simp
              have hmm := unhide HM
              have HPM : Hid (Ps wr (some ⟨m, 0, none⟩) l) := by
                have h := Tw.take (OwnP.ps hmm) l.length
                rw [unhide HLM, List.take_left' rfl] at h
                exact h
              have hps := OwnP.ps hmm
              obtain ⟨b9, o9, he9, z0, z1, z2⟩ := hps.get hgl
              injection he9 with he9
              injection he9 with he91 he92
              subst he91 he92
              simp only [Nat.zero_add] at z0 z1 z2
              have HTX : Hid (tx [98, 101, 104, 105, 110, 100] = { data := #[98, 101, 104, 105, 110, 100] }) := rfl
              rw [unhide HTX] at z1 z2
              have hl2' := unhide HL2
              clear hK2 hlm hgl hmm hps HM
              have b9 := b_alloc wr (.cells #[.int .i64 7, .string { data := #[98, 101, 104, 105, 110, 100] }] 58)
              have n9 := heap_alloc_new wr (.cells #[.int .i64 7, .string { data := #[98, 101, 104, 105, 110, 100] }] 58)
              have HB9 := hide (below_then (unhide HB) b9)
              have HPM9 := hide ((unhide HPM).below b9)
              have HLS9 := hide ((unhide HLS).below b9)
              generalize hW9 : wr.alloc (.cells #[.int .i64 7, .string { data := #[98, 101, 104, 105, 110, 100] }] 58) = w9 at *
              obtain ⟨q9, hq9⟩ : ∃ q, q = wr.heap.size := ⟨_, rfl⟩
              have d0 : w9.cell? ⟨wr.heap.size, 0, none⟩ = some (.int .i64 7) := (cell_of_row w9 _ 0 _ _ _ n9).trans rfl
              have d1 : w9.cell? ⟨wr.heap.size, 1, none⟩ = some (.string { data := #[98, 101, 104, 105, 110, 100] }) := (cell_of_row w9 _ 1 _ _ _ n9).trans rfl
              clear b9 n9 HB HPM HLS
              go_wp2_with (refine slice_front rfl _ _ rfl rfl rfl hcap4 ?_)
              rw [← hq9] at d0 d1 ⊢
              clear hW9 hq9
              refine (same_self _ _ _ _ l _ (unhide HPM9) (unhide HLS9) (by omega)).mono ?_
              rintro e w10 ⟨rfl, hb⟩
              have f0 := cell_keep d0 hb
              have f1 := cell_keep d1 hb
              have HB10 := hide (below_then (unhide HB9) hb)
              clear hb d0 d1 HB9 HPM9 HLS9
              go_wp2
              go_ret
              exact ⟨rfl, below_then (unhide HBW) (unhide HB10)⟩
end Go.Proofs.YtmpgaecnibakdaaDoor
