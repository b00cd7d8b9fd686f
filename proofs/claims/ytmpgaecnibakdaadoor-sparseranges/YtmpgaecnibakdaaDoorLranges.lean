/- The walk of the law SparseRanges. -/
import Derived.Test.YtmpgaecnibakdaaDoorLk
namespace Go.Proofs.YtmpgaecnibakdaaDoor
open Go.ChangeShapes Go.WideShapes Go.ChangeAt Go.RowKit
attribute [local go_sem] Oper.semAt_some

def inR (R : List Rg) (at' : Int) (k : Nat) : Bool := (R.take k).any fun x => decide (x.1 ≤ at') && decide (at' < x.2)
def hasR (l : List Pc) (A : Int) (k : Nat) : Bool := (l.take k).any fun p => p.1 == A
theorem inR_succ {R : List Rg} {at' : Int} {k : Nat} {x y : Int} (h : R[k]? = some (x, y)) : inR R at' (k + 1) = (inR R at' k || (decide (x ≤ at') && decide (at' < y))) := by
  unfold inR
  rw [take_snoc h, List.any_append]
  simp
theorem hasR_succ {l : List Pc} {A : Int} {k : Nat} {ix : Int} {da : List UInt8} (h : l[k]? = some (ix, da)) : hasR l A (k + 1) = (hasR l A k || (ix == A)) := by
  unfold hasR
  rw [take_snoc h, List.any_append]
  simp
theorem in_has {l : List Pc} {size at' : Int} (h : Right l size) (ha : at' < size) : inR (rngR l size) at' (rngR l size).length = hasR l (at' / 64) l.length := by
  have hk := rng_ok l.length l size rfl h
  have hh := hk.has at' ha
  rw [Bool.eq_iff_iff]
  unfold inR hasR
  rw [List.take_length, List.take_length, List.any_eq_true, List.any_eq_true]
  constructor
  · rintro ⟨x, hx, e⟩
    rw [Bool.and_eq_true, decide_eq_true_iff, decide_eq_true_iff] at e
    obtain ⟨p, hp, e2⟩ := hh.1 ⟨x, hx, e⟩
    exact ⟨p, hp, beq_iff_eq.2 e2⟩
  · rintro ⟨p, hp, e⟩
    obtain ⟨x, hx, e2⟩ := hh.2 ⟨p, hp, beq_iff_eq.1 e⟩
    exact ⟨x, hx, by rw [decide_eq_true e2.1, decide_eq_true e2.2]; rfl⟩
theorem no_piece {l : List Pc} {at' : Int} (h : hasR l (at' / 64) l.length = false) : atR l at' = 0 := by
  refine at_none fun p hp e => ?_
  have : hasR l (at' / 64) l.length = true := by
    unfold hasR
    rw [List.take_length, List.any_eq_true]
    exact ⟨p, hp, beq_iff_eq.2 e⟩
  rw [h] at this
  cases this
theorem read_one {l : List Pc} {size at' : Int} (hc : chkR l size = 0) (h0 : 0 ≤ at') (h1 : at' < size) : readA l size at' 1 = ([atR l at'], 0) := by
  rw [readA_ok hc (by omega)]
  unfold readR
  have : (min 1 (size - at')).toNat = 1 := by omega
  rw [this]
  simp [rowOf]

set_option maxHeartbeats 8000000 in
set_option maxRecDepth 10000 in
theorem ranges_walk (l : List Pc) (a : Option Addr) (cap : Nat) (size at' : Int) (w : World) (hr : Ps w a l) (hl : l.length ≤ 9223372036854775807) (ha : I64 at') :
    Calls Tryd.prog 7 #[.slice a l.length cap, .int .i64 size, .int .i64 at'] w fun e w' => e = .returned (.bool true) ∧ Below w.heap.size w w' := by
  have ha2 := ha.2
  clear ha
  have HA := hide (fun W => awake_any W)
  have HL := hide hr
  have HG := hide (fun W (hW : Below w.heap.size w W) => great_any a cap l W (hr.below hW) hl)
  clear hr
  by_cases hg : greatB l = true
  · rw [hg] at HG
    clear hg HL
    go_enter Tryd.func7, Tryd.ntmps7
    go_wp2_with fail
    refine (unhide HA _).mono ?_
    rintro e w1 ⟨rfl, hb⟩
    have HB1 := hide hb
    clear hb HA
    go_wp2_with fail
    refine (unhide HG _ (unhide HB1)).mono ?_
    rintro e w1 ⟨rfl, rfl⟩
    go_wp2
    go_ret
    exact ⟨rfl, unhide HB1⟩
  obtain ⟨hl2, hd⟩ := great_no hg
  rw [Bool.not_eq_true] at hg
  rw [hg] at HG
  clear hg hl
  by_cases h0 : at' < 0
  · clear HL
    go_enter Tryd.func7, Tryd.ntmps7
    go_wp2_with fail
    refine (unhide HA _).mono ?_
    rintro e w1 ⟨rfl, hb⟩
    have HB1 := hide hb
    clear hb HA
    go_wp2_with fail
    refine (unhide HG _ (unhide HB1)).mono ?_
    rintro e w1 ⟨rfl, rfl⟩
    go_wp2
    go_ret
    exact ⟨rfl, unhide HB1⟩
  by_cases h1 : size ≤ at'
  · clear HL
    go_enter Tryd.func7, Tryd.ntmps7
    go_wp2_with fail
    refine (unhide HA _).mono ?_
    rintro e w1 ⟨rfl, hb⟩
    have HB1 := hide hb
    clear hb HA
    go_wp2_with fail
    refine (unhide HG _ (unhide HB1)).mono ?_
    rintro e w1 ⟨rfl, rfl⟩
    go_wp2
    go_ret
    exact ⟨rfl, unhide HB1⟩
  have h1' : at' < size := by omega
  have h0' : 0 ≤ at' := by omega
  have HO := hide (fun W (hW : Below w.heap.size w W) => own_any a cap l W ((unhide HL).below hW) (by omega))
  have HRG := hide (fun W A C (hW : Ps W A l) => ranges_any A C l size W hW (by omega) (fun p hp => by have := hd p hp; omega))
  have HRD := hide (fun W A C (hW : Ps W A l) (hC : l.length ≤ C) => read_any A C l size at' 1 W hW hC (by omega) (fun p hp => by have := hd p hp; omega) ha2)
  have HCK := hide (fun W A C (hW : Ps W A l) => chk_any A C l size W hW (by omega) (fun p hp => by have := hd p hp; omega))
  by_cases hc : chkR l size = 0
  case neg =>
    rw [rngA_form hc] at HRG
    rw [(chk_two l size).resolve_left hc] at HCK
    clear HRD hc hd
    go_enter Tryd.func7, Tryd.ntmps7
    go_wp2_with fail
    refine (unhide HA _).mono ?_
    rintro e w1 ⟨rfl, hb⟩
    have HB1 := hide hb
    clear hb HA
    go_wp2_with fail
    refine (unhide HG _ (unhide HB1)).mono ?_
    rintro e w1 ⟨rfl, rfl⟩
    go_wp2_with fail
    refine (unhide HO _ (unhide HB1)).mono ?_
    rintro e w2 ⟨a2, c2, rfl, ho, hb⟩
    have HP2 := hide (OwnP.ps ho)
    have HB2 := hide (below_then (unhide HB1) hb)
    clear ho hb HB1
    go_wp2_with fail
    refine (unhide HRG _ _ _ (unhide HP2)).mono ?_
    rintro e w3 ⟨⟨v, rfl, ho⟩, hb⟩
    have HB3 := hide (below_then (unhide HB2) hb)
    obtain ⟨a3, c3, rfl⟩ := ho.form
    clear ho hb HB2 HP2
    go_wp2_with fail
    refine (unhide HO _ (unhide HB3)).mono ?_
    rintro e w4 ⟨a4, c4, rfl, ho, hb⟩
    have HP4 := hide (OwnP.ps ho)
    have HB4 := hide (below_then (unhide HB3) hb)
    clear ho hb HB3
    go_wp2_with fail
    refine (unhide HCK _ _ _ (unhide HP4)).mono ?_
    rintro e w5 ⟨rfl, hb⟩
    have HB5 := hide (below_then (unhide HB4) hb)
    clear hb HB4 HP4
    go_wp2
    go_ret
    exact ⟨rfl, unhide HB5⟩
  have hri := right_chk hc
  have hk := rng_ok l.length l size rfl hri
  have hie := in_has hri h1'
  rw [read_one hc h0' h1'] at HRD
  rw [rngA_ok hc] at HRG
  have HAZ := hide (fun h => no_piece (l := l) (at' := at') h)
  have hrl := rngR_len l size
  obtain ⟨R, hR⟩ : ∃ R, R = rngR l size := ⟨_, rfl⟩
  rw [← hR] at HRG hk hie hrl
  have HEA := hide hk.each
  have HAP := hide hk.apart
  have HIE := hide hie
  have HRL : Hid (R.length ≤ 200) := by rw [hide_eq]; omega
  have HL2 := hide hl2
  obtain ⟨A, hA⟩ : ∃ A, A = at' / 64 := ⟨_, rfl⟩
  have hq : at'.tdiv 64 = A := by rw [hA]; exact Int.tdiv_eq_ediv_of_nonneg h0'
  rw [← hA] at HIE HAZ
  have hA0 : 0 ≤ A := by omega
  have hA1 : A ≤ 9223372036854775807 := by omega
  clear hri hk hie hR hrl hA hc hd hl2 HCK
  go_enter Tryd.func7, Tryd.ntmps7
  go_wp2_with fail
  refine (unhide HA _).mono ?_
  rintro e w1 ⟨rfl, hb⟩
  have HB1 := hide hb
  clear hb HA
  go_wp2_with fail
  refine (unhide HG _ (unhide HB1)).mono ?_
  rintro e w1 ⟨rfl, rfl⟩
  go_wp2_with fail
  refine (unhide HO _ (unhide HB1)).mono ?_
  rintro e w2 ⟨a2, c2, rfl, ho, hb⟩
  have HP2 := hide (OwnP.ps ho)
  have HB2 := hide (below_then (unhide HB1) hb)
  clear ho hb HB1
  go_wp2_with fail
  refine (unhide HRG _ _ _ (unhide HP2)).mono ?_
  rintro e w3 ⟨⟨v, rfl, ho⟩, hb⟩
  have HB3 := hide (below_then (unhide HB2) hb)
  obtain ⟨a3, c3, rfl⟩ := ho.form
  have HS3 := hide (OwnR.rs ho)
  clear ho hb HB2 HP2
  go_wp2
  go_loopw [9, 11] (fun t s wr => ∃ k : Nat, k ≤ R.length ∧ s = .int .i64 k ∧ t = .bool (inR R at' k) ∧ Rs wr a3 R ∧ Below w.heap.size w wr) (fun _ s _ => R.length - (intOf s).toNat)
  case atStart => exact ⟨0, Nat.zero_le _, rfl, rfl, unhide HS3, unhide HB3⟩
  case round =>
    obtain ⟨k, hk, rfl, rfl, hs, hb⟩ := hrel
    have HS := hide hs
    have HB := hide hb
    by_cases hlt : k < R.length
    · obtain ⟨⟨x, y⟩, hx⟩ := get_some hlt
      obtain ⟨b, off, rfl, c0, c1, c2⟩ := hs.get hx
      have hlt' : (k : Int) < (R.length : Int) := by omega
      have hev := unhide HEA _ (List.mem_of_getElem? hx)
      simp only at hev
      have g1 : decide (y ≤ x) = false := decide_eq_false (by omega)
      have g2 : decide (size < y) = false := decide_eq_false (by omega)
      have HLT := hide hlt
      have HIS := hide (inR_succ (at' := at') hx)
      have HRL2 := unhide HRL
      clear hev hs hb HS3 HB3
      cases k with
      | zero =>
        have v0 := c0
        have v1 := c2
        simp only [Nat.zero_mul, Nat.add_zero] at v0 v1
        clear hlt c0 c1 c2
        obtain ⟨IN, hIN⟩ : ∃ IN, IN = inR R at' 0 := ⟨_, rfl⟩
        rw [← hIN] at HIS ⊢
        clear hIN
        cases IN with
        | true =>
          have HNX := hide (unhide HIS)
          rw [Bool.true_or] at HNX
          clear HIS
          go_wp2
          go_quiet (fail)
          have HB6 := hide (below_then (unhide HB) (b_drewN wr nq))
          have HS6 := hide ((unhide HS).below (b_drewN wr nq))
          clear HB HS
          generalize wr.drewN nq = w6 at *
          go_wp2
          go_roundw
          case rel => exact ⟨0 + 1, by have := unhide HLT; omega, by go_num, by rw [unhide HNX], unhide HS6, unhide HB6⟩
          case measure => have := unhide HLT; simp [intOf] <;> omega
        | false =>
          by_cases g5 : x ≤ at'
          · by_cases g6 : at' < y
            · have HNX := hide (unhide HIS)
              rw [decide_eq_true g5, decide_eq_true g6, show (false || (true && true)) = true from rfl] at HNX
              clear HIS
              go_wp2
              go_quiet (fail)
              have HB6 := hide (below_then (unhide HB) (b_drewN wr nq))
              have HS6 := hide ((unhide HS).below (b_drewN wr nq))
              clear HB HS
              generalize wr.drewN nq = w6 at *
              go_wp2
              go_roundw
              case rel => exact ⟨0 + 1, by have := unhide HLT; omega, by go_num, by rw [unhide HNX], unhide HS6, unhide HB6⟩
              case measure => have := unhide HLT; simp [intOf] <;> omega
            · have HNX := hide (unhide HIS)
              rw [decide_eq_true g5, decide_eq_false g6, show (false || (true && false)) = false from rfl] at HNX
              clear HIS
              go_wp2
              go_quiet (fail)
              have HB6 := hide (below_then (unhide HB) (b_drewN wr nq))
              have HS6 := hide ((unhide HS).below (b_drewN wr nq))
              clear HB HS
              generalize wr.drewN nq = w6 at *
              go_wp2
              go_roundw
              case rel => exact ⟨0 + 1, by have := unhide HLT; omega, by go_num, by rw [unhide HNX], unhide HS6, unhide HB6⟩
              case measure => have := unhide HLT; simp [intOf] <;> omega
          · have HNX := hide (unhide HIS)
            rw [decide_eq_false g5, show ∀ z, (false || (false && z)) = false from fun _ => rfl] at HNX
            clear HIS
            go_wp2
            go_quiet (fail)
            have HB6 := hide (below_then (unhide HB) (b_drewN wr nq))
            have HS6 := hide ((unhide HS).below (b_drewN wr nq))
            clear HB HS
            generalize wr.drewN nq = w6 at *
            go_wp2
            go_roundw
            case rel => exact ⟨0 + 1, by have := unhide HLT; omega, by go_num, by rw [unhide HNX], unhide HS6, unhide HB6⟩
            case measure => have := unhide HLT; simp [intOf] <;> omega
      | succ j =>
        have hjl' : j < R.length := by omega
        obtain ⟨⟨x', y'⟩, hy⟩ := get_some hjl'
        have hjl : (j : Int) < (R.length : Int) := by omega
        have hj0 : (0 : Int) < (j : Int) + 1 := by omega
        have hj00 : (0 : Int) ≤ (j : Int) := by omega
        obtain ⟨b', om', he, x0, x1, x2⟩ := (unhide HS).get hy
        injection he with he
        injection he with he1 he2
        subst he1 he2
        have hap : y' < x := by
          have := List.pairwise_iff_getElem.1 (unhide HAP) j (j + 1) hjl' hlt (by omega)
          rw [List.getElem?_eq_getElem hlt] at hx
          rw [List.getElem?_eq_getElem hjl'] at hy
          rw [Option.some.inj hx, Option.some.inj hy] at this
          exact this
        have g3 : decide (x ≤ y') = false := decide_eq_false (by omega)
        clear hlt hx hy hap
        obtain ⟨IN, hIN⟩ : ∃ IN, IN = inR R at' (j + 1) := ⟨_, rfl⟩
        rw [← hIN] at HIS ⊢
        clear hIN
        cases IN with
        | true =>
          have HNX := hide (unhide HIS)
          rw [Bool.true_or] at HNX
          clear HIS
          go_wp2
          go_quiet (fail)
          have HB6 := hide (below_then (unhide HB) (b_drewN wr nq))
          have HS6 := hide ((unhide HS).below (b_drewN wr nq))
          clear HB HS
          generalize wr.drewN nq = w6 at *
          go_wp2
          go_roundw
          case rel => exact ⟨j + 1 + 1, by have := unhide HLT; omega, by go_num, by rw [unhide HNX], unhide HS6, unhide HB6⟩
          case measure => have := unhide HLT; simp [intOf] <;> omega
        | false =>
          by_cases g5 : x ≤ at'
          · by_cases g6 : at' < y
            · have HNX := hide (unhide HIS)
              rw [decide_eq_true g5, decide_eq_true g6, show (false || (true && true)) = true from rfl] at HNX
              clear HIS
              go_wp2
              go_quiet (fail)
              have HB6 := hide (below_then (unhide HB) (b_drewN wr nq))
              have HS6 := hide ((unhide HS).below (b_drewN wr nq))
              clear HB HS
              generalize wr.drewN nq = w6 at *
              go_wp2
              go_roundw
              case rel => exact ⟨j + 1 + 1, by have := unhide HLT; omega, by go_num, by rw [unhide HNX], unhide HS6, unhide HB6⟩
              case measure => have := unhide HLT; simp [intOf] <;> omega
            · have HNX := hide (unhide HIS)
              rw [decide_eq_true g5, decide_eq_false g6, show (false || (true && false)) = false from rfl] at HNX
              clear HIS
              go_wp2
              go_quiet (fail)
              have HB6 := hide (below_then (unhide HB) (b_drewN wr nq))
              have HS6 := hide ((unhide HS).below (b_drewN wr nq))
              clear HB HS
              generalize wr.drewN nq = w6 at *
              go_wp2
              go_roundw
              case rel => exact ⟨j + 1 + 1, by have := unhide HLT; omega, by go_num, by rw [unhide HNX], unhide HS6, unhide HB6⟩
              case measure => have := unhide HLT; simp [intOf] <;> omega
          · have HNX := hide (unhide HIS)
            rw [decide_eq_false g5, show ∀ z, (false || (false && z)) = false from fun _ => rfl] at HNX
            clear HIS
            go_wp2
            go_quiet (fail)
            have HB6 := hide (below_then (unhide HB) (b_drewN wr nq))
            have HS6 := hide ((unhide HS).below (b_drewN wr nq))
            clear HB HS
            generalize wr.drewN nq = w6 at *
            go_wp2
            go_roundw
            case rel => exact ⟨j + 1 + 1, by have := unhide HLT; omega, by go_num, by rw [unhide HNX], unhide HS6, unhide HB6⟩
            case measure => have := unhide HLT; simp [intOf] <;> omega
    · obtain rfl : k = R.length := by omega
      have hlt' : ¬ (R.length : Int) < (R.length : Int) := by omega
      rw [unhide HIE]
      clear hlt hs hb HS HS3 HB3 hk
      go_wp2
      go_loopw [10, 12] (fun t s wr => ∃ k : Nat, k ≤ l.length ∧ s = .int .i64 k ∧ t = .bool (hasR l A k) ∧ Below w.heap.size w wr) (fun _ s _ => l.length - (intOf s).toNat)
      case atStart => exact ⟨0, Nat.zero_le _, rfl, rfl, unhide HB⟩
      case round =>
        obtain ⟨k, hk, rfl, rfl, hb⟩ := hrel
        have HB := hide hb
        by_cases hlt : k < l.length
        · obtain ⟨⟨ix, da⟩, hx⟩ := get_some hlt
          obtain ⟨b, off, rfl, c0, c1, c2⟩ := ((unhide HL).below hb).get hx
          have hlt' : (k : Int) < (l.length : Int) := by omega
          have HLT := hide hlt
          have HIS := hide (hasR_succ (A := A) hx)
          have HL3 := unhide HL2
          clear hx hb hlt
          obtain ⟨IN, hIN⟩ : ∃ IN, IN = hasR l A k := ⟨_, rfl⟩
          rw [← hIN] at HIS ⊢
          clear hIN
          cases IN with
          | true =>
            rw [Bool.true_or] at HIS
            go_wp2
            go_roundw
            case rel => exact ⟨k + 1, by have := unhide HLT; omega, by go_num, by rw [unhide HIS], unhide HB⟩
            case measure => have := unhide HLT; simp [intOf] <;> omega
          | false =>
            rw [Bool.false_or] at HIS
            have HIT := HIS
            clear HIS
            by_cases g5 : ix = A
            · rw [beq_iff_eq.2 g5] at HIT
              go_wp2
              go_roundw
              case rel => exact ⟨k + 1, by have := unhide HLT; omega, by go_num, by rw [unhide HIT], unhide HB⟩
              case measure => have := unhide HLT; simp [intOf] <;> omega
            · rw [beq_eq_false_iff_ne.2 g5] at HIT
              have g6 : (ix == A) = false := beq_eq_false_iff_ne.2 g5
              go_wp2
              go_roundw
              case rel => exact ⟨k + 1, by have := unhide HLT; omega, by go_num, by rw [unhide HIT], unhide HB⟩
              case measure => have := unhide HLT; simp [intOf] <;> omega
        · obtain rfl : k = l.length := by omega
          have hlt' : ¬ (l.length : Int) < (l.length : Int) := by omega
          clear hlt hb hk
          cases hH : hasR l A l.length with
          | true =>
            clear hH HAZ
            have hz : (tx [atR l at']).size = 1 := by rw [tx_size]; rfl
            unfold textA at HRD
            simp only at HRD
            generalize tx [atR l at'] = T at *
            go_wp2_with fail
            refine (unhide HO _ (unhide HB)).mono ?_
            rintro e w2 ⟨a2, c2, rfl, ho, hb⟩
            have HP2 := hide (OwnP.ps ho)
            have HC2 := hide (OwnP.cap ho)
            have HB2 := hide (below_then (unhide HB) hb)
            clear ho hb HB
            go_wp2_with fail
            refine (unhide HRD _ _ _ (unhide HP2) (unhide HC2)).mono ?_
            rintro e w3 ⟨rfl, hb⟩
            have HB9 := hide (below_then (unhide HB2) hb)
            clear hb HB2 HP2 HC2
            go_wp2
            go_ret
            exact ⟨rfl, unhide HB9⟩
          | false =>
            rw [unhide HAZ hH] at HRD
            rw [show textA ([0], 0) = .tuple #[.string { data := #[0] }, .int .i64 0] from rfl] at HRD
            clear hH HAZ
            go_wp2_with fail
            refine (unhide HO _ (unhide HB)).mono ?_
            rintro e w2 ⟨a2, c2, rfl, ho, hb⟩
            have HP2 := hide (OwnP.ps ho)
            have HC2 := hide (OwnP.cap ho)
            have HB2 := hide (below_then (unhide HB) hb)
            clear ho hb HB
            go_wp2_with fail
            refine (unhide HRD _ _ _ (unhide HP2) (unhide HC2)).mono ?_
            rintro e w3 ⟨rfl, hb⟩
            have HB9 := hide (below_then (unhide HB2) hb)
            clear hb HB2 HP2 HC2
            go_wp2
            go_ret
            exact ⟨rfl, unhide HB9⟩
end Go.Proofs.YtmpgaecnibakdaaDoor
