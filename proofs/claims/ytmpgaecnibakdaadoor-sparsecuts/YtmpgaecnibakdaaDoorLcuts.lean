/- The walk of the law SparseCuts. -/
import Derived.Test.YtmpgaecnibakdaaDoorLk
namespace Go.Proofs.YtmpgaecnibakdaaDoor
open Go.ChangeShapes Go.WideShapes Go.ChangeAt Go.RowKit
attribute [local go_sem] Oper.semAt_some

theorem read_at {l : List Pc} {size at' : Int} (hc : chkR l size = 0) (h0 : 0 ≤ at') (h1 : at' < size) (h2 : at' ≤ 9223372036854775807) (A : Option Addr) (C : Nat) (W : World) (hW : Ps W A l) (hC : l.length ≤ C) (hl : l.length ≤ 1000) (hd : ∀ p ∈ l, p.2.length ≤ 10000) :
    Calls Tryd.prog 11 #[.slice A l.length C, .int .i64 size, .int .i64 at', .int .i64 1] W fun e w' => e = .returned (.tuple #[.string (tx [atR l at']), .int .i64 0]) ∧ Below W.heap.size W w' := by
  have := read_any A C l size at' 1 W hW hC (by omega) (fun p hp => by have := hd p hp; omega) h2
  rw [readA_ok hc (by omega)] at this
  have e : readR l size at' 1 = [atR l at'] := by
    unfold readR
    have : (min 1 (size - at')).toNat = 1 := by omega
    rw [this]
    simp [rowOf]
  rw [e] at this
  exact this

set_option maxHeartbeats 16000000 in
set_option maxRecDepth 10000 in
theorem cuts_walk (l : List Pc) (a : Option Addr) (cap : Nat) (size n off many : Int) (w : World) (hr : Ps w a l) (hl : l.length ≤ 9223372036854775807) (hn : I64 n) (ho : I64 off) (hm : I64 many) :
    Calls Tryd.prog 6 #[.slice a l.length cap, .int .i64 size, .int .i64 n, .int .i64 off, .int .i64 many] w fun e w' => e = .returned (.bool true) ∧ Below w.heap.size w w' := by
  have hn2 := hn.2
  have ho2 := ho.2
  have hm2 := hm.2
  clear hn ho hm
  have HA := hide (fun W => awake_any W)
  have HL := hide hr
  have HG := hide (fun W (hW : Below w.heap.size w W) => great_any a cap l W (hr.below hW) hl)
  clear hr
  by_cases hg : greatB l = true
  · rw [hg] at HG
    clear hg HL
    go_enter Tryd.func6, Tryd.ntmps6
    go_wp2_with fail
    refine (unhide HA _).mono ?_
    rintro e w1 ⟨rfl, hb⟩
    have HB1 := hide hb
    clear hb HA
    go_wp2_with fail
    refine (unhide HG _ (unhide HB1)).mono ?_
    rintro e w1 ⟨rfl, rfl⟩
    go_wp2
    go_ret
    exact ⟨rfl, unhide HB1⟩
  obtain ⟨hl2, hd⟩ := great_no hg
  rw [Bool.not_eq_true] at hg
  rw [hg] at HG
  clear hg hl
  have hdd : ∀ p ∈ l, p.2.length ≤ 10000 := fun p hp => by have := hd p hp; omega
  have HO := hide (fun W (hW : Below w.heap.size w W) => own_any a cap l W ((unhide HL).below hW) (by omega))
  have HCK := hide (fun W A C (hW : Ps W A l) => chk_any A C l size W hW (by omega) (fun p hp => by have := hd p hp; omega))
  by_cases hc : chkR l size = 0
  case neg =>
    rw [(chk_two l size).resolve_left hc] at HCK
    clear hc hd hdd
    go_enter Tryd.func6, Tryd.ntmps6
    go_wp2_with fail
    refine (unhide HA _).mono ?_
    rintro e w1 ⟨rfl, hb⟩
    have HB1 := hide hb
    clear hb HA
    go_wp2_with fail
    refine (unhide HG _ (unhide HB1)).mono ?_
    rintro e w1 ⟨rfl, rfl⟩
    go_wp2_with fail
    refine (unhide HO _ (unhide HB1)).mono ?_
    rintro e w2 ⟨a2, c2, rfl, ho, hb⟩
    have HPO := hide (OwnP.ps ho)
    have HCO := hide (OwnP.cap ho)
    have HB2 := hide (below_then (unhide HB1) hb)
    clear ho hb
    go_wp2_with fail
    refine (unhide HCK _ _ _ (unhide HPO)).mono ?_
    rintro e w3 ⟨rfl, hb⟩
    have HB3 := hide (below_then (unhide HB2) hb)
    clear hb HPO HCO
    go_wp2
    go_ret
    exact ⟨rfl, unhide HB3⟩
  rw [hc] at HCK
  by_cases g0 : off < 0
  · clear hc hd hdd
    go_enter Tryd.func6, Tryd.ntmps6
    go_wp2_with fail
    refine (unhide HA _).mono ?_
    rintro e w1 ⟨rfl, hb⟩
    have HB1 := hide hb
    clear hb HA
    go_wp2_with fail
    refine (unhide HG _ (unhide HB1)).mono ?_
    rintro e w1 ⟨rfl, rfl⟩
    go_wp2_with fail
    refine (unhide HO _ (unhide HB1)).mono ?_
    rintro e w2 ⟨a2, c2, rfl, ho, hb⟩
    have HPO := hide (OwnP.ps ho)
    have HCO := hide (OwnP.cap ho)
    have HB2 := hide (below_then (unhide HB1) hb)
    clear ho hb
    go_wp2_with fail
    refine (unhide HCK _ _ _ (unhide HPO)).mono ?_
    rintro e w3 ⟨rfl, hb⟩
    have HB3 := hide (below_then (unhide HB2) hb)
    clear hb HPO HCO
    go_wp2
    go_ret
    exact ⟨rfl, unhide HB3⟩
  by_cases g1 : many < 0
  · clear hc hd hdd
    go_enter Tryd.func6, Tryd.ntmps6
    go_wp2_with fail
    refine (unhide HA _).mono ?_
    rintro e w1 ⟨rfl, hb⟩
    have HB1 := hide hb
    clear hb HA
    go_wp2_with fail
    refine (unhide HG _ (unhide HB1)).mono ?_
    rintro e w1 ⟨rfl, rfl⟩
    go_wp2_with fail
    refine (unhide HO _ (unhide HB1)).mono ?_
    rintro e w2 ⟨a2, c2, rfl, ho, hb⟩
    have HPO := hide (OwnP.ps ho)
    have HCO := hide (OwnP.cap ho)
    have HB2 := hide (below_then (unhide HB1) hb)
    clear ho hb
    go_wp2_with fail
    refine (unhide HCK _ _ _ (unhide HPO)).mono ?_
    rintro e w3 ⟨rfl, hb⟩
    have HB3 := hide (below_then (unhide HB2) hb)
    clear hb HPO HCO
    go_wp2
    go_ret
    exact ⟨rfl, unhide HB3⟩
  by_cases g2 : n < 0
  · clear hc hd hdd
    go_enter Tryd.func6, Tryd.ntmps6
    go_wp2_with fail
    refine (unhide HA _).mono ?_
    rintro e w1 ⟨rfl, hb⟩
    have HB1 := hide hb
    clear hb HA
    go_wp2_with fail
    refine (unhide HG _ (unhide HB1)).mono ?_
    rintro e w1 ⟨rfl, rfl⟩
    go_wp2_with fail
    refine (unhide HO _ (unhide HB1)).mono ?_
    rintro e w2 ⟨a2, c2, rfl, ho, hb⟩
    have HPO := hide (OwnP.ps ho)
    have HCO := hide (OwnP.cap ho)
    have HB2 := hide (below_then (unhide HB1) hb)
    clear ho hb
    go_wp2_with fail
    refine (unhide HCK _ _ _ (unhide HPO)).mono ?_
    rintro e w3 ⟨rfl, hb⟩
    have HB3 := hide (below_then (unhide HB2) hb)
    clear hb HPO HCO
    go_wp2
    go_ret
    exact ⟨rfl, unhide HB3⟩
  have hri := right_chk hc
  have s0 := hri.lo
  have s1 := hri.hi
  have HT1 := hide (fun W A C (hW : Ps W A l) (hC : l.length ≤ C) => trunc_any A C l size n W hW hC (by omega) hdd)
  have HPU := hide (fun W A C (hW : Ps W A l) (hC : l.length ≤ C) => punch_any A C l size off many W hW hC (by omega) hdd ho2 hm2)
  rw [punchA_ok hc (by omega)] at HPU
  unfold Ans2 at HPU
  simp only at HPU
  by_cases g3 : 4611686018427387904 < n
  · rw [truncA_far hc g2 g3] at HT1
    have HT2 := hide (fun W A C (hW : Ps W A []) (hC : ([] : List Pc).length ≤ C) => trunc_any A C [] 0 size W hW hC (by simp) (by simp))
    unfold Ans3 at HT1 HT2
    simp only at HT1 HT2
    generalize truncA [] 0 size = XT at *
    obtain ⟨tl, tm, te⟩ := XT
    simp only at HT2
    generalize punR l size off many = P at *
    have HD := hide hdd
    clear hri hd hdd hc
    go_enter Tryd.func6, Tryd.ntmps6
    go_wp2_with fail
    refine (unhide HA _).mono ?_
    rintro e w1 ⟨rfl, hb⟩
    have HB1 := hide hb
    clear hb HA
    go_wp2_with fail
    refine (unhide HG _ (unhide HB1)).mono ?_
    rintro e w1 ⟨rfl, rfl⟩
    go_wp2_with fail
    refine (unhide HO _ (unhide HB1)).mono ?_
    rintro e w2 ⟨a2, c2, rfl, ho, hb⟩
    have HPO := hide (OwnP.ps ho)
    have HCO := hide (OwnP.cap ho)
    have HB2 := hide (below_then (unhide HB1) hb)
    clear ho hb
    go_wp2_with fail
    refine (unhide HCK _ _ _ (unhide HPO)).mono ?_
    rintro e w3 ⟨rfl, hb⟩
    have HB3 := hide (below_then (unhide HB2) hb)
    clear hb HPO HCO
    go_wp2_with fail
    refine (unhide HO _ (unhide HB3)).mono ?_
    rintro e w4 ⟨a4, c4, rfl, ho, hb⟩
    have HPO := hide (OwnP.ps ho)
    have HCO := hide (OwnP.cap ho)
    have HB4 := hide (below_then (unhide HB3) hb)
    clear ho hb
    go_wp2_with fail
    refine (unhide HT1 _ _ _ (unhide HPO) (unhide HCO)).mono ?_
    rintro e w5 ⟨⟨v, rfl, ho⟩, hb⟩
    have HB5 := hide (below_then (unhide HB4) hb)
    obtain ⟨b5, d5, rfl⟩ := ho.form
    have HP5 := hide (OwnP.ps ho)
    have HC5 := hide (OwnP.cap ho)
    clear ho hb HPO HCO
    go_wp2_with fail
    refine (unhide HT2 _ _ _ (unhide HP5) (unhide HC5)).mono ?_
    rintro e w6 ⟨⟨v, rfl, ho⟩, hb⟩
    have HB6 := hide (below_then (unhide HB5) hb)
    obtain ⟨b6, d6, rfl⟩ := ho.form
    have HX6 := hide (OwnP.ps ho)
    have HXC := hide (OwnP.cap ho)
    clear ho hb HP5 HC5
    go_wp2_with fail
    refine (unhide HO _ (unhide HB6)).mono ?_
    rintro e w7 ⟨a7, c7, rfl, ho, hb⟩
    have HPO := hide (OwnP.ps ho)
    have HCO := hide (OwnP.cap ho)
    have HB7 := hide (below_then (unhide HB6) hb)
    have HX7 := hide ((unhide HX6).below hb)
    clear ho hb HX6
    go_wp2_with fail
    refine (unhide HPU _ _ _ (unhide HPO) (unhide HCO)).mono ?_
    rintro e w8 ⟨⟨v, rfl, ho⟩, hb⟩
    have HB8 := hide (below_then (unhide HB7) hb)
    have HX8 := hide ((unhide HX7).below hb)
    obtain ⟨b8, d8, rfl⟩ := ho.form
    have HY8 := hide (OwnP.ps ho)
    have HYC := hide (OwnP.cap ho)
    clear ho hb HPO HCO HX7
    go_wp2
    go_ret
    exact ⟨rfl, unhide HB8⟩
  · rw [truncA_ok hc g2 g3] at HT1
    have hrt := right_trunc hri (n := n) (by omega) (by omega)
    have hrx := right_trunc hrt (n := size) s0 s1
    have hrp := right_pun hri off many
    have hct := chk_right hrt
    have hcx := chk_right hrx
    have hcp := chk_right hrp
    have htl := truncR_len l n
    have hxl := truncR_len (truncR l n) size
    have hpl := punR_len l size off many
    have hat1 := fun place => at_trunc hrt.so size place
    have hat2 := fun place => at_trunc hri.so n place
    have hat3 := fun place hp => at_pun hri off many place hp
    have HT2 := hide (fun W A C (hW : Ps W A (truncR l n)) (hC : (truncR l n).length ≤ C) => trunc_any A C (truncR l n) n size W hW hC (by omega) (fun p hp => by have := (hrt.ok p hp).2.2.1; omega))
    rw [truncA_ok hct (by omega) (by omega)] at HT2
    have RX := hide (fun W A C (hW : Ps W A (truncR (truncR l n) size)) (hC : (truncR (truncR l n) size).length ≤ C) at' (h0 : 0 ≤ at') (h1 : at' < size) => read_at hcx h0 h1 (by omega) A C W hW hC (by omega) (fun p hp => by have := (hrx.ok p hp).2.2.1; omega))
    have RY := hide (fun W A C (hW : Ps W A (punR l size off many)) (hC : (punR l size off many).length ≤ C) at' (h0 : 0 ≤ at') (h1 : at' < size) => read_at hcp h0 h1 (by omega) A C W hW hC (by omega) (fun p hp => by have := (hrp.ok p hp).2.2.1; omega))
    have RL := hide (fun W A C (hW : Ps W A l) (hC : l.length ≤ C) at' (h0 : 0 ≤ at') (h1 : at' < size) => read_at hc h0 h1 (by omega) A C W hW hC (by omega) hdd)
    unfold Ans3 at HT1 HT2
    simp only at HT1 HT2
    generalize truncR (truncR l n) size = X at *
    generalize truncR l n = T0 at *
    generalize punR l size off many = Y at *
    have HX1 : Hid (∀ place, place < size → place < n → atR X place = atR l place) := fun place h1 h2 => by rw [hat1, if_pos h1, hat2, if_pos h2]
    have HX2 : Hid (∀ place, place < size → ¬ place < n → atR X place = 0) := fun place h1 h2 => by rw [hat1, if_pos h1, hat2, if_neg h2]
    have HY1 : Hid (∀ place, place < size → off ≤ place → place - off < many → atR Y place = 0) := fun place h1 h2 h3 => by rw [hat3 _ h1, if_pos ⟨h2, h3⟩]
    have HY2 : Hid (∀ place, place < size → ¬ (off ≤ place ∧ place - off < many) → atR Y place = atR l place) := fun place h1 h2 => by rw [hat3 _ h1, if_neg h2]
    have HOK := hide hri.ok
    have HL2 := hide hl2
    clear hri hrt hrx hrp hct hcx hcp htl hxl hpl hat1 hat2 hat3 hd hdd hc hl2
    go_enter Tryd.func6, Tryd.ntmps6
    go_wp2_with fail
    refine (unhide HA _).mono ?_
    rintro e w1 ⟨rfl, hb⟩
    have HB1 := hide hb
    clear hb HA
    go_wp2_with fail
    refine (unhide HG _ (unhide HB1)).mono ?_
    rintro e w1 ⟨rfl, rfl⟩
    go_wp2_with fail
    refine (unhide HO _ (unhide HB1)).mono ?_
    rintro e w2 ⟨a2, c2, rfl, ho, hb⟩
    have HPO := hide (OwnP.ps ho)
    have HCO := hide (OwnP.cap ho)
    have HB2 := hide (below_then (unhide HB1) hb)
    clear ho hb
    go_wp2_with fail
    refine (unhide HCK _ _ _ (unhide HPO)).mono ?_
    rintro e w3 ⟨rfl, hb⟩
    have HB3 := hide (below_then (unhide HB2) hb)
    clear hb HPO HCO
    go_wp2_with fail
    refine (unhide HO _ (unhide HB3)).mono ?_
    rintro e w4 ⟨a4, c4, rfl, ho, hb⟩
    have HPO := hide (OwnP.ps ho)
    have HCO := hide (OwnP.cap ho)
    have HB4 := hide (below_then (unhide HB3) hb)
    clear ho hb
    go_wp2_with fail
    refine (unhide HT1 _ _ _ (unhide HPO) (unhide HCO)).mono ?_
    rintro e w5 ⟨⟨v, rfl, ho⟩, hb⟩
    have HB5 := hide (below_then (unhide HB4) hb)
    obtain ⟨b5, d5, rfl⟩ := ho.form
    have HP5 := hide (OwnP.ps ho)
    have HC5 := hide (OwnP.cap ho)
    clear ho hb HPO HCO
    go_wp2_with fail
    refine (unhide HT2 _ _ _ (unhide HP5) (unhide HC5)).mono ?_
    rintro e w6 ⟨⟨v, rfl, ho⟩, hb⟩
    have HB6 := hide (below_then (unhide HB5) hb)
    obtain ⟨b6, d6, rfl⟩ := ho.form
    have HX6 := hide (OwnP.ps ho)
    have HXC := hide (OwnP.cap ho)
    clear ho hb HP5 HC5
    go_wp2_with fail
    refine (unhide HO _ (unhide HB6)).mono ?_
    rintro e w7 ⟨a7, c7, rfl, ho, hb⟩
    have HPO := hide (OwnP.ps ho)
    have HCO := hide (OwnP.cap ho)
    have HB7 := hide (below_then (unhide HB6) hb)
    have HX7 := hide ((unhide HX6).below hb)
    clear ho hb HX6
    go_wp2_with fail
    refine (unhide HPU _ _ _ (unhide HPO) (unhide HCO)).mono ?_
    rintro e w8 ⟨⟨v, rfl, ho⟩, hb⟩
    have HB8 := hide (below_then (unhide HB7) hb)
    have HX8 := hide ((unhide HX7).below hb)
    obtain ⟨b8, d8, rfl⟩ := ho.form
    have HY8 := hide (OwnP.ps ho)
    have HYC := hide (OwnP.cap ho)
    clear ho hb HPO HCO HX7
    go_wp2
    go_loopw [19] (fun s wr => ∃ i : Nat, i ≤ l.length ∧ s = .int .i64 i ∧ Ps wr b6 X ∧ Ps wr b8 Y ∧ Below w.heap.size w wr) (fun s _ => l.length - (intOf s).toNat)
    case atStart => exact ⟨0, Nat.zero_le _, rfl, unhide HX8, unhide HY8, unhide HB8⟩
    case round =>
      obtain ⟨i, hi, rfl, hx8, hy8, hb⟩ := hrel
      have HB := hide hb
      have HX := hide hx8
      have HY := hide hy8
      clear HB8 HX8 HY8
      by_cases hlt : i < l.length
      · obtain ⟨⟨ix, da⟩, hx⟩ := get_some hlt
        have hps := unhide HL
        obtain ⟨b, om, rfl, c0, c1, c2⟩ := hps.get hx
        obtain ⟨o1, o2, o3, o4⟩ := unhide HOK _ (List.mem_of_getElem? hx)
        simp only at o1 o2 o3
        have hlt' : (i : Int) < (l.length : Int) := by omega
        have hl9 := unhide HL2
        have HLT := hide hlt
        have HCE : Hid (∀ W, Below w.heap.size w W → W.cell? ⟨b, om + i * 2, none⟩ = some (.int .i64 ix)) := fun W hW => cell_keep c0 hW
        clear hx hb hx8 hy8 c0 c1 c2 hps o4 hlt
        go_wp2
        go_loopw [20] (fun s wr => ∃ j : Nat, j ≤ 70 ∧ s = .int .i64 j ∧ Ps wr b6 X ∧ Ps wr b8 Y ∧ Below w.heap.size w wr) (fun s _ => 70 - (intOf s).toNat)
        case atStart => exact ⟨0, by omega, rfl, unhide HX, unhide HY, unhide HB⟩
        case round =>
          obtain ⟨j, hj, rfl, hx8, hy8, hb⟩ := hrel
          have c0 := unhide HCE _ hb
          have HB := hide hb
          have HX := hide hx8
          have HY := hide hy8
          clear hb hx8 hy8
          by_cases hj64 : j < 64
          · have hj' : (j : Int) < 64 := by omega
            have n0 : 0 ≤ ix * 64 + (j : Int) := by omega
            have n1 : ix * 64 ≤ 4611686018427387904 := by omega
            have n2 : 0 ≤ ix * 64 := by omega
            have HJ := hide hj64
            by_cases hbk : size ≤ ix * 64 + (j : Int)
            · go_wp2
              go_roundw
              case rel => exact ⟨i + 1, by have := unhide HLT; omega, by go_num, unhide HX, unhide HY, unhide HB⟩
              case measure => have := unhide HLT; simp [intOf] <;> omega
            · have hpl : ix * 64 + (j : Int) < size := by omega
              have hbk' : decide (size ≤ ix * 64 + (j : Int)) = false := decide_eq_false hbk
              have RA := hide (fun W A C hW hC => unhide RL W A C hW hC _ n0 hpl)
              have RB := hide (fun W A C hW hC => unhide RX W A C hW hC _ n0 hpl)
              have RC := hide (fun W A C hW hC => unhide RY W A C hW hC _ n0 hpl)
              have HB1a := hide (fun h => unhide HX1 _ hpl h)
              have HB1b := hide (fun h => unhide HX2 _ hpl h)
              have HC1 := hide (fun h k => unhide HY1 _ hpl h k)
              have HC2 := hide (fun h => unhide HY2 _ hpl h)
              have e3 : -9223372036854775808 ≤ ix * 64 + (j : Int) - off := by omega
              have e4 : ix * 64 + (j : Int) - off ≤ 9223372036854775807 := by omega
              have htx := str_eq (tx [atR l (ix * 64 + (j : Int))])
              by_cases q1 : ix * 64 + (j : Int) < n
              · rw [unhide HB1a q1] at RB
                by_cases p1 : off ≤ ix * 64 + (j : Int)
                · by_cases p2 : ix * 64 + (j : Int) - off < many
                  · rw [unhide HC1 p1 p2, show tx [0] = { data := #[0] } from rfl] at RC
                    clear HB1a HB1b HC1 HC2
                    generalize tx [atR l (ix * 64 + (j : Int))] = T at *
                    go_wp2_with fail
                    refine (unhide HO _ (unhide HB)).mono ?_
                    rintro e w1 ⟨a1, c1, rfl, ho, hb⟩
                    have HPO := hide (OwnP.ps ho)
                    have HCO := hide (OwnP.cap ho)
                    have HB1 := hide (below_then (unhide HB) hb)
                    have HX1 := hide ((unhide HX).below hb)
                    have HY1 := hide ((unhide HY).below hb)
                    clear ho hb HB HX HY
                    go_wp2_with fail
                    refine (unhide RA _ _ _ (unhide HPO) (unhide HCO)).mono ?_
                    rintro e w2 ⟨rfl, hb⟩
                    have HB2 := hide (below_then (unhide HB1) hb)
                    have HX2 := hide ((unhide HX1).below hb)
                    have HY2 := hide ((unhide HY1).below hb)
                    clear hb HB1 HX1 HY1 HPO HCO
                    go_wp2_with fail
                    refine (unhide RB _ _ _ (unhide HX2) (unhide HXC)).mono ?_
                    rintro e w3 ⟨rfl, hb⟩
                    have HB3 := hide (below_then (unhide HB2) hb)
                    have HX3 := hide ((unhide HX2).below hb)
                    have HY3 := hide ((unhide HY2).below hb)
                    clear hb HB2 HX2 HY2
                    go_wp2_with fail
                    refine (unhide RC _ _ _ (unhide HY3) (unhide HYC)).mono ?_
                    rintro e w4 ⟨rfl, hb⟩
                    have HB4 := hide (below_then (unhide HB3) hb)
                    have HX4 := hide ((unhide HX3).below hb)
                    have HY4 := hide ((unhide HY3).below hb)
                    clear hb HB3 HX3 HY3
                    go_wp2
                    go_roundw
                    case rel => exact ⟨j + 7, by have := unhide HJ; omega, by go_num, unhide HX4, unhide HY4, unhide HB4⟩
                    case measure => have := unhide HJ; simp [intOf] <;> omega
                  · have p2' : decide (ix * 64 + (j : Int) - off < many) = false := decide_eq_false p2
                    rw [unhide HC2 (fun h => p2 h.2)] at RC
                    clear HB1a HB1b HC1 HC2
                    generalize tx [atR l (ix * 64 + (j : Int))] = T at *
                    go_wp2_with fail
                    refine (unhide HO _ (unhide HB)).mono ?_
                    rintro e w1 ⟨a1, c1, rfl, ho, hb⟩
                    have HPO := hide (OwnP.ps ho)
                    have HCO := hide (OwnP.cap ho)
                    have HB1 := hide (below_then (unhide HB) hb)
                    have HX1 := hide ((unhide HX).below hb)
                    have HY1 := hide ((unhide HY).below hb)
                    clear ho hb HB HX HY
                    go_wp2_with fail
                    refine (unhide RA _ _ _ (unhide HPO) (unhide HCO)).mono ?_
                    rintro e w2 ⟨rfl, hb⟩
                    have HB2 := hide (below_then (unhide HB1) hb)
                    have HX2 := hide ((unhide HX1).below hb)
                    have HY2 := hide ((unhide HY1).below hb)
                    clear hb HB1 HX1 HY1 HPO HCO
                    go_wp2_with fail
                    refine (unhide RB _ _ _ (unhide HX2) (unhide HXC)).mono ?_
                    rintro e w3 ⟨rfl, hb⟩
                    have HB3 := hide (below_then (unhide HB2) hb)
                    have HX3 := hide ((unhide HX2).below hb)
                    have HY3 := hide ((unhide HY2).below hb)
                    clear hb HB2 HX2 HY2
                    go_wp2_with fail
                    refine (unhide RC _ _ _ (unhide HY3) (unhide HYC)).mono ?_
                    rintro e w4 ⟨rfl, hb⟩
                    have HB4 := hide (below_then (unhide HB3) hb)
                    have HX4 := hide ((unhide HX3).below hb)
                    have HY4 := hide ((unhide HY3).below hb)
                    clear hb HB3 HX3 HY3
                    go_wp2
                    go_roundw
                    case rel => exact ⟨j + 7, by have := unhide HJ; omega, by go_num, unhide HX4, unhide HY4, unhide HB4⟩
                    case measure => have := unhide HJ; simp [intOf] <;> omega
                · have p1' : decide (off ≤ ix * 64 + (j : Int)) = false := decide_eq_false p1
                  rw [unhide HC2 (fun h => p1 h.1)] at RC
                  clear HB1a HB1b HC1 HC2
                  generalize tx [atR l (ix * 64 + (j : Int))] = T at *
                  go_wp2_with fail
                  refine (unhide HO _ (unhide HB)).mono ?_
                  rintro e w1 ⟨a1, c1, rfl, ho, hb⟩
                  have HPO := hide (OwnP.ps ho)
                  have HCO := hide (OwnP.cap ho)
                  have HB1 := hide (below_then (unhide HB) hb)
                  have HX1 := hide ((unhide HX).below hb)
                  have HY1 := hide ((unhide HY).below hb)
                  clear ho hb HB HX HY
                  go_wp2_with fail
                  refine (unhide RA _ _ _ (unhide HPO) (unhide HCO)).mono ?_
                  rintro e w2 ⟨rfl, hb⟩
                  have HB2 := hide (below_then (unhide HB1) hb)
                  have HX2 := hide ((unhide HX1).below hb)
                  have HY2 := hide ((unhide HY1).below hb)
                  clear hb HB1 HX1 HY1 HPO HCO
                  go_wp2_with fail
                  refine (unhide RB _ _ _ (unhide HX2) (unhide HXC)).mono ?_
                  rintro e w3 ⟨rfl, hb⟩
                  have HB3 := hide (below_then (unhide HB2) hb)
                  have HX3 := hide ((unhide HX2).below hb)
                  have HY3 := hide ((unhide HY2).below hb)
                  clear hb HB2 HX2 HY2
                  go_wp2_with fail
                  refine (unhide RC _ _ _ (unhide HY3) (unhide HYC)).mono ?_
                  rintro e w4 ⟨rfl, hb⟩
                  have HB4 := hide (below_then (unhide HB3) hb)
                  have HX4 := hide ((unhide HX3).below hb)
                  have HY4 := hide ((unhide HY3).below hb)
                  clear hb HB3 HX3 HY3
                  go_wp2
                  go_roundw
                  case rel => exact ⟨j + 7, by have := unhide HJ; omega, by go_num, unhide HX4, unhide HY4, unhide HB4⟩
                  case measure => have := unhide HJ; simp [intOf] <;> omega
              · have q1' : decide (ix * 64 + (j : Int) < n) = false := decide_eq_false q1
                rw [unhide HB1b (by omega), show tx [0] = { data := #[0] } from rfl] at RB
                by_cases p1 : off ≤ ix * 64 + (j : Int)
                · by_cases p2 : ix * 64 + (j : Int) - off < many
                  · rw [unhide HC1 p1 p2, show tx [0] = { data := #[0] } from rfl] at RC
                    clear HB1a HB1b HC1 HC2
                    generalize tx [atR l (ix * 64 + (j : Int))] = T at *
                    go_wp2_with fail
                    refine (unhide HO _ (unhide HB)).mono ?_
                    rintro e w1 ⟨a1, c1, rfl, ho, hb⟩
                    have HPO := hide (OwnP.ps ho)
                    have HCO := hide (OwnP.cap ho)
                    have HB1 := hide (below_then (unhide HB) hb)
                    have HX1 := hide ((unhide HX).below hb)
                    have HY1 := hide ((unhide HY).below hb)
                    clear ho hb HB HX HY
                    go_wp2_with fail
                    refine (unhide RA _ _ _ (unhide HPO) (unhide HCO)).mono ?_
                    rintro e w2 ⟨rfl, hb⟩
                    have HB2 := hide (below_then (unhide HB1) hb)
                    have HX2 := hide ((unhide HX1).below hb)
                    have HY2 := hide ((unhide HY1).below hb)
                    clear hb HB1 HX1 HY1 HPO HCO
                    go_wp2_with fail
                    refine (unhide RB _ _ _ (unhide HX2) (unhide HXC)).mono ?_
                    rintro e w3 ⟨rfl, hb⟩
                    have HB3 := hide (below_then (unhide HB2) hb)
                    have HX3 := hide ((unhide HX2).below hb)
                    have HY3 := hide ((unhide HY2).below hb)
                    clear hb HB2 HX2 HY2
                    go_wp2_with fail
                    refine (unhide RC _ _ _ (unhide HY3) (unhide HYC)).mono ?_
                    rintro e w4 ⟨rfl, hb⟩
                    have HB4 := hide (below_then (unhide HB3) hb)
                    have HX4 := hide ((unhide HX3).below hb)
                    have HY4 := hide ((unhide HY3).below hb)
                    clear hb HB3 HX3 HY3
                    go_wp2
                    go_roundw
                    case rel => exact ⟨j + 7, by have := unhide HJ; omega, by go_num, unhide HX4, unhide HY4, unhide HB4⟩
                    case measure => have := unhide HJ; simp [intOf] <;> omega
                  · have p2' : decide (ix * 64 + (j : Int) - off < many) = false := decide_eq_false p2
                    rw [unhide HC2 (fun h => p2 h.2)] at RC
                    clear HB1a HB1b HC1 HC2
                    generalize tx [atR l (ix * 64 + (j : Int))] = T at *
                    go_wp2_with fail
                    refine (unhide HO _ (unhide HB)).mono ?_
                    rintro e w1 ⟨a1, c1, rfl, ho, hb⟩
                    have HPO := hide (OwnP.ps ho)
                    have HCO := hide (OwnP.cap ho)
                    have HB1 := hide (below_then (unhide HB) hb)
                    have HX1 := hide ((unhide HX).below hb)
                    have HY1 := hide ((unhide HY).below hb)
                    clear ho hb HB HX HY
                    go_wp2_with fail
                    refine (unhide RA _ _ _ (unhide HPO) (unhide HCO)).mono ?_
                    rintro e w2 ⟨rfl, hb⟩
                    have HB2 := hide (below_then (unhide HB1) hb)
                    have HX2 := hide ((unhide HX1).below hb)
                    have HY2 := hide ((unhide HY1).below hb)
                    clear hb HB1 HX1 HY1 HPO HCO
                    go_wp2_with fail
                    refine (unhide RB _ _ _ (unhide HX2) (unhide HXC)).mono ?_
                    rintro e w3 ⟨rfl, hb⟩
                    have HB3 := hide (below_then (unhide HB2) hb)
                    have HX3 := hide ((unhide HX2).below hb)
                    have HY3 := hide ((unhide HY2).below hb)
                    clear hb HB2 HX2 HY2
                    go_wp2_with fail
                    refine (unhide RC _ _ _ (unhide HY3) (unhide HYC)).mono ?_
                    rintro e w4 ⟨rfl, hb⟩
                    have HB4 := hide (below_then (unhide HB3) hb)
                    have HX4 := hide ((unhide HX3).below hb)
                    have HY4 := hide ((unhide HY3).below hb)
                    clear hb HB3 HX3 HY3
                    go_wp2
                    go_roundw
                    case rel => exact ⟨j + 7, by have := unhide HJ; omega, by go_num, unhide HX4, unhide HY4, unhide HB4⟩
                    case measure => have := unhide HJ; simp [intOf] <;> omega
                · have p1' : decide (off ≤ ix * 64 + (j : Int)) = false := decide_eq_false p1
                  rw [unhide HC2 (fun h => p1 h.1)] at RC
                  clear HB1a HB1b HC1 HC2
                  generalize tx [atR l (ix * 64 + (j : Int))] = T at *
                  go_wp2_with fail
                  refine (unhide HO _ (unhide HB)).mono ?_
                  rintro e w1 ⟨a1, c1, rfl, ho, hb⟩
                  have HPO := hide (OwnP.ps ho)
                  have HCO := hide (OwnP.cap ho)
                  have HB1 := hide (below_then (unhide HB) hb)
                  have HX1 := hide ((unhide HX).below hb)
                  have HY1 := hide ((unhide HY).below hb)
                  clear ho hb HB HX HY
                  go_wp2_with fail
                  refine (unhide RA _ _ _ (unhide HPO) (unhide HCO)).mono ?_
                  rintro e w2 ⟨rfl, hb⟩
                  have HB2 := hide (below_then (unhide HB1) hb)
                  have HX2 := hide ((unhide HX1).below hb)
                  have HY2 := hide ((unhide HY1).below hb)
                  clear hb HB1 HX1 HY1 HPO HCO
                  go_wp2_with fail
                  refine (unhide RB _ _ _ (unhide HX2) (unhide HXC)).mono ?_
                  rintro e w3 ⟨rfl, hb⟩
                  have HB3 := hide (below_then (unhide HB2) hb)
                  have HX3 := hide ((unhide HX2).below hb)
                  have HY3 := hide ((unhide HY2).below hb)
                  clear hb HB2 HX2 HY2
                  go_wp2_with fail
                  refine (unhide RC _ _ _ (unhide HY3) (unhide HYC)).mono ?_
                  rintro e w4 ⟨rfl, hb⟩
                  have HB4 := hide (below_then (unhide HB3) hb)
                  have HX4 := hide ((unhide HX3).below hb)
                  have HY4 := hide ((unhide HY3).below hb)
                  clear hb HB3 HX3 HY3
                  go_wp2
                  go_roundw
                  case rel => exact ⟨j + 7, by have := unhide HJ; omega, by go_num, unhide HX4, unhide HY4, unhide HB4⟩
                  case measure => have := unhide HJ; simp [intOf] <;> omega
          · have hj' : ¬ (j : Int) < 64 := by omega
            clear hj64
            go_wp2
            go_roundw
            case rel => exact ⟨i + 1, by have := unhide HLT; omega, by go_num, unhide HX, unhide HY, unhide HB⟩
            case measure => have := unhide HLT; simp [intOf] <;> omega
      · obtain rfl : i = l.length := by omega
        have hlt' : ¬ (l.length : Int) < (l.length : Int) := by omega
        clear hlt hb hx8 hy8
        go_wp2
        go_ret
        exact ⟨rfl, unhide HB⟩
end Go.Proofs.YtmpgaecnibakdaaDoor
