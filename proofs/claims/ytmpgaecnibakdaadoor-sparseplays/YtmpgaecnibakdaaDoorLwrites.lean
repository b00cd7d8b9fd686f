/- The walk of the law SparseWrites. -/
import Derived.Test.YtmpgaecnibakdaaDoorLk
namespace Go.Proofs.YtmpgaecnibakdaaDoor
open Go.ChangeShapes Go.WideShapes Go.ChangeAt Go.RowKit
attribute [local go_sem] Oper.semAt_some

theorem wr_cases (l : List Pc) (size off : Int) (d : List UInt8) : (∃ e, (e = 21 ∨ e = 1 ∨ e = 130) ∧ writeA l size off d = ([], 0, e)) ∨ ∃ l' m, writeA l size off d = (l', m, 0) := by
  by_cases hc : chkR l size = 0
  case neg => exact .inl ⟨21, .inl rfl, writeA_form hc⟩
  by_cases ha : off < 0 ∨ 4096 < (d.length : Int)
  · exact .inl ⟨1, .inr (.inl rfl), writeA_arg hc ha⟩
  by_cases hf : 4611686018427387904 - (d.length : Int) < off
  · exact .inl ⟨130, .inr (.inr rfl), writeA_far hc ha hf⟩
  by_cases hv : d = []
  · exact .inr ⟨_, _, writeA_none hc ha hf hv⟩
  · exact .inr ⟨_, _, writeA_ok hc ha hf hv⟩
structure WrOk (l : List Pc) (size off : Int) (d : List UInt8) (l' : List Pc) (m : Int) : Prop where
  was : Right l size
  now : Right l' m
  more : size ≤ m
  off0 : 0 ≤ off
  off1 : off + d.length ≤ 4611686018427387904
  fits : d.length = 0 ∨ off + d.length ≤ m
  at' : ∀ place, atR l' place = if off ≤ place ∧ place - off < d.length then d.getD (place - off).toNat 0 else atR l place
  len : l'.length ≤ 2 * l.length + 70
theorem wr_ok {l : List Pc} {size off : Int} {d : List UInt8} {l' : List Pc} {m : Int} (h : writeA l size off d = (l', m, 0)) : WrOk l size off d l' m := by
  by_cases hc : chkR l size = 0
  case neg => rw [writeA_form hc] at h; cases h
  by_cases ha : off < 0 ∨ 4096 < (d.length : Int)
  · rw [writeA_arg hc ha] at h; cases h
  by_cases hf : 4611686018427387904 - (d.length : Int) < off
  · rw [writeA_far hc ha hf] at h; cases h
  have hri := right_chk hc
  by_cases hv : d = []
  · rw [writeA_none hc ha hf hv] at h
    injection h with h1 h2
    injection h2 with h2 h3
    subst h1 h2 hv
    exact ⟨hri, hri, Int.le_refl _, by omega, by omega, .inl rfl, fun place => by rw [if_neg (by simp only [List.length_nil]; omega)], by omega⟩
  · rw [writeA_ok hc ha hf hv] at h
    injection h with h1 h2
    injection h2 with h2 h3
    subst h1 h2
    refine ⟨hri, right_write hri (by omega) (by omega), by omega, by omega, by omega, .inr (by omega), fun place => at_write hri.so place, ?_⟩
    have := writeR_len l off d (off / 64) (manyW off d.length)
    have h3 : manyW off d.length ≤ 70 := by unfold manyW; omega
    omega
theorem read_len (l : List Pc) (size off n : Int) : (readR l size off n).length = (min n (size - off)).toNat := rowOf_length _ _
theorem read_get (l : List Pc) (size off n : Int) (k : Nat) (hk : k < (readR l size off n).length) : (readR l size off n).getD k 0 = atR l (off + k) := by
  rw [read_len] at hk
  exact rowOf_get _ _ _ hk
theorem read_back {l : List Pc} {size off : Int} {d : List UInt8} {l' : List Pc} {m : Int} (h : WrOk l size off d l' m) : readR l' m off d.length = d := by
  have h1 := h.off0
  have hl : (readR l' m off d.length).length = d.length := by
    rw [read_len]
    have := h.fits
    have := h.off1
    omega
  refine ext_getD hl fun k hk => ?_
  rw [read_get _ _ _ _ _ hk, h.at', if_pos (by omega)]
  congr 1
  omega
/-- what is read stands where it should -/
structure IsOk (off at' : Int) (d was is : List UInt8) : Prop where
  len : was.length ≤ is.length
  bound : ∀ k : Nat, k < is.length → at' + k ≤ 4611686018427387904
  new : ∀ k : Nat, k < is.length → off ≤ at' + k → at' + k - off < d.length → is.getD k 0 = d.getD (at' + k - off).toNat 0
  old : ∀ k : Nat, k < is.length → ¬ (off ≤ at' + k ∧ at' + k - off < d.length) → k < was.length → is.getD k 0 = was.getD k 0
  zero : ∀ k : Nat, k < is.length → ¬ (off ≤ at' + k ∧ at' + k - off < d.length) → was.length ≤ k → is.getD k 0 = 0
theorem is_ok {l : List Pc} {size off : Int} {d : List UInt8} {l' : List Pc} {m : Int} (h : WrOk l size off d l' m) {at' n : Int} (h0 : 0 ≤ at') (hn : 0 ≤ n) : IsOk off at' d (readR l size at' n) (readR l' m at' n) := by
  have hm := h.more
  have hi := h.now.hi
  refine ⟨by rw [read_len, read_len]; omega, fun k hk => ?_, fun k hk h1 h2 => ?_, fun k hk h1 h2 => ?_, fun k hk h1 h2 => ?_⟩
  · rw [read_len] at hk
    omega
  · rw [read_get _ _ _ _ _ hk, h.at', if_pos ⟨h1, h2⟩]
  · rw [read_get _ _ _ _ _ hk, h.at', if_neg h1, read_get _ _ _ _ _ h2]
  · rw [read_get _ _ _ _ _ hk, h.at', if_neg h1]
    rw [read_len] at hk h2
    exact at_behind h.was (by omega)

set_option maxHeartbeats 8000000 in
set_option maxRecDepth 10000 in
theorem writes_walk (l : List Pc) (a : Option Addr) (cap : Nat) (size off : Int) (s : ByteArray) (at' n : Int) (w : World) (hr : Ps w a l) (hl : l.length ≤ 9223372036854775807) (ho : I64 off) (ha : I64 at') :
    Calls Tryd.prog 5 #[.slice a l.length cap, .int .i64 size, .int .i64 off, .string s, .int .i64 at', .int .i64 n] w fun e w' => e = .returned (.bool true) ∧ Below w.heap.size w w' := by
  obtain ⟨d, rfl⟩ : ∃ d, s = tx d := ⟨bs s, (tx_bs s).symm⟩
  have ha2 := ha.2
  have ho2 := ho.2
  clear ha ho
  have HA := hide (fun W => awake_any W)
  have HL := hide hr
  have HG := hide (fun W (hW : Below w.heap.size w W) => great_any a cap l W (hr.below hW) hl)
  clear hr
  by_cases hg : greatB l = true
  · rw [hg] at HG
    clear hg HL
    go_enter Tryd.func5, Tryd.ntmps5
    go_wp2_with fail
    refine (unhide HA _).mono ?_
    rintro e w1 ⟨rfl, hb⟩
    have HB1 := hide hb
    clear hb HA
    go_wp2_with fail
    refine (unhide HG _ (unhide HB1)).mono ?_
    rintro e w1 ⟨rfl, rfl⟩
    go_wp2
    go_ret
    exact ⟨rfl, unhide HB1⟩
  obtain ⟨hl2, hd⟩ := great_no hg
  rw [Bool.not_eq_true] at hg
  rw [hg] at HG
  clear hg hl
  by_cases g0 : (4096 : Int) < ((tx d).size : Int)
  · clear HL
    go_enter Tryd.func5, Tryd.ntmps5
    go_wp2_with fail
    refine (unhide HA _).mono ?_
    rintro e w1 ⟨rfl, hb⟩
    have HB1 := hide hb
    clear hb HA
    go_wp2_with fail
    refine (unhide HG _ (unhide HB1)).mono ?_
    rintro e w1 ⟨rfl, rfl⟩
    go_wp2
    go_ret
    exact ⟨rfl, unhide HB1⟩
  by_cases g1 : at' < 0
  · clear HL
    go_enter Tryd.func5, Tryd.ntmps5
    go_wp2_with fail
    refine (unhide HA _).mono ?_
    rintro e w1 ⟨rfl, hb⟩
    have HB1 := hide hb
    clear hb HA
    go_wp2_with fail
    refine (unhide HG _ (unhide HB1)).mono ?_
    rintro e w1 ⟨rfl, rfl⟩
    go_wp2
    go_ret
    exact ⟨rfl, unhide HB1⟩
  by_cases g2 : n < 0
  · clear HL
    go_enter Tryd.func5, Tryd.ntmps5
    go_wp2_with fail
    refine (unhide HA _).mono ?_
    rintro e w1 ⟨rfl, hb⟩
    have HB1 := hide hb
    clear hb HA
    go_wp2_with fail
    refine (unhide HG _ (unhide HB1)).mono ?_
    rintro e w1 ⟨rfl, rfl⟩
    go_wp2
    go_ret
    exact ⟨rfl, unhide HB1⟩
  by_cases g3 : 4096 < n
  · clear HL
    go_enter Tryd.func5, Tryd.ntmps5
    go_wp2_with fail
    refine (unhide HA _).mono ?_
    rintro e w1 ⟨rfl, hb⟩
    have HB1 := hide hb
    clear hb HA
    go_wp2_with fail
    refine (unhide HG _ (unhide HB1)).mono ?_
    rintro e w1 ⟨rfl, rfl⟩
    go_wp2
    go_ret
    exact ⟨rfl, unhide HB1⟩
  have hsz := tx_size d
  have HO := hide (fun W (hW : Below w.heap.size w W) => own_any a cap l W ((unhide HL).below hW) (by omega))
  have HW := hide (fun W A C (hW : Ps W A l) (hC : l.length ≤ C) => write_any A C l size off d W hW hC (by omega) (fun p hp => by have := hd p hp; omega) ho2 (by omega))
  rcases wr_cases l size off d with ⟨er, her, hwa⟩ | ⟨l', m, hwa⟩
  · rw [hwa] at HW
    clear hwa hsz hd
    go_enter Tryd.func5, Tryd.ntmps5
    go_wp2_with fail
    refine (unhide HA _).mono ?_
    rintro e w1 ⟨rfl, hb⟩
    have HB1 := hide hb
    clear hb HA
    go_wp2_with fail
    refine (unhide HG _ (unhide HB1)).mono ?_
    rintro e w1 ⟨rfl, rfl⟩
    go_wp2_with fail
    refine (unhide HO _ (unhide HB1)).mono ?_
    rintro e w2 ⟨a2, c2, rfl, ho, hb⟩
    have HP2 := hide (OwnP.ps ho)
    have HC2 := hide (OwnP.cap ho)
    have HB2 := hide (below_then (unhide HB1) hb)
    clear ho hb HB1
    go_wp2_with fail
    refine (unhide HW _ _ _ (unhide HP2) (unhide HC2)).mono ?_
    rintro e w3 ⟨⟨v, rfl, ho⟩, hb⟩
    have HB3 := hide (below_then (unhide HB2) hb)
    obtain ⟨a3, c3, rfl⟩ := ho.form
    clear ho hb HB2 HP2 HC2
    rcases her with rfl | rfl | rfl
    · go_wp2
      go_ret
      exact ⟨rfl, unhide HB3⟩
    · go_wp2
      go_ret
      exact ⟨rfl, unhide HB3⟩
    · go_wp2
      go_ret
      exact ⟨rfl, unhide HB3⟩
  have hwo := wr_ok hwa
  have hio := is_ok hwo (at' := at') (n := n) (by omega) (by omega)
  have hll := hwo.len
  have h64 : ∀ p ∈ l', p.2.length = 64 := fun p hp => (hwo.now.ok p hp).2.2.1
  have c1 := chk_right hwo.was
  have c2 := chk_right hwo.now
  have hof := hwo.off0
  have hof1 := hwo.off1
  have HR1 := hide (fun W A C (hW : Ps W A l') (hC : l'.length ≤ C) => read_any A C l' m off d.length W hW hC (by omega) (fun p hp => by have := h64 p hp; omega) ho2)
  have HR2 := hide (fun W A C (hW : Ps W A l) (hC : l.length ≤ C) => read_any A C l size at' n W hW hC (by omega) (fun p hp => by have := hd p hp; omega) ha2)
  have HR3 := hide (fun W A C (hW : Ps W A l') (hC : l'.length ≤ C) => read_any A C l' m at' n W hW hC (by omega) (fun p hp => by have := h64 p hp; omega) ha2)
  rw [readA_ok c2 (by omega), read_back hwo] at HR1
  rw [readA_ok c1 (by omega)] at HR2
  rw [readA_ok c2 (by omega)] at HR3
  rw [hwa] at HW
  rw [← hsz] at HR1
  unfold textA at HR1 HR2 HR3
  simp only at HR1 HR2 HR3
  generalize readR l size at' n = WAS at *
  generalize readR l' m at' n = IS at *
  have HIO := hide hio
  have hlen : ¬ ((tx IS).size : Int) < ((tx WAS).size : Int) := by rw [tx_size, tx_size]; have := hio.len; omega
  have hlen' : decide ((tx IS).size < (tx WAS).size) = false := decide_eq_false (by omega)
  have HS1 := hide (tx_size IS)
  have HS2 := hide (tx_size WAS)
  have HS3 := hide hsz
  clear hwa hwo hio h64 c1 c2 hd hll hsz
  go_enter Tryd.func5, Tryd.ntmps5
  go_wp2_with fail
  refine (unhide HA _).mono ?_
  rintro e w1 ⟨rfl, hb⟩
  have HB1 := hide hb
  clear hb HA
  go_wp2_with fail
  refine (unhide HG _ (unhide HB1)).mono ?_
  rintro e w1 ⟨rfl, rfl⟩
  go_wp2_with fail
  refine (unhide HO _ (unhide HB1)).mono ?_
  rintro e w2 ⟨a2, c2, rfl, ho, hb⟩
  have HP2 := hide (OwnP.ps ho)
  have HC2 := hide (OwnP.cap ho)
  have HB2 := hide (below_then (unhide HB1) hb)
  clear ho hb HB1
  go_wp2_with fail
  refine (unhide HW _ _ _ (unhide HP2) (unhide HC2)).mono ?_
  rintro e w3 ⟨⟨v, rfl, ho⟩, hb⟩
  have HB3 := hide (below_then (unhide HB2) hb)
  obtain ⟨a3, c3, rfl⟩ := ho.form
  have HP3 := hide (OwnP.ps ho)
  have HC3 := hide (OwnP.cap ho)
  clear ho hb HB2 HP2 HC2 HW
  go_wp2_with fail
  refine (unhide HR1 _ _ _ (unhide HP3) (unhide HC3)).mono ?_
  rintro e w4 ⟨rfl, hb⟩
  have HB4 := hide (below_then (unhide HB3) hb)
  have HP4 := hide ((unhide HP3).below hb)
  clear hb HB3 HP3 HR1
  go_wp2_with fail
  refine (unhide HO _ (unhide HB4)).mono ?_
  rintro e w5 ⟨a5, c5, rfl, ho, hb⟩
  have HPO := hide (OwnP.ps ho)
  have HCO := hide (OwnP.cap ho)
  have HB5 := hide (below_then (unhide HB4) hb)
  have HP5 := hide ((unhide HP4).below hb)
  clear ho hb HB4 HP4
  go_wp2_with fail
  refine (unhide HR2 _ _ _ (unhide HPO) (unhide HCO)).mono ?_
  rintro e w6 ⟨rfl, hb⟩
  have HB6 := hide (below_then (unhide HB5) hb)
  have HP6 := hide ((unhide HP5).below hb)
  clear hb HB5 HP5 HR2 HPO HCO
  go_wp2_with fail
  refine (unhide HR3 _ _ _ (unhide HP6) (unhide HC3)).mono ?_
  rintro e w7 ⟨rfl, hb⟩
  have HB7 := hide (below_then (unhide HB6) hb)
  clear hb HB6 HP6 HR3 HC3 HO
  have htd := str_eq (tx d)
  go_wp2
  try simp only [hlen']
  clear hlen hlen' htd
  go_loopw [22] (fun s wr => ∃ k : Nat, k ≤ (tx IS).size ∧ s = .int .i64 k ∧ Below w.heap.size w wr) (fun s _ => (tx IS).size - (intOf s).toNat)
  case atStart => exact ⟨0, Nat.zero_le _, rfl, unhide HB7⟩
  case round =>
    obtain ⟨k, hk, rfl, hb⟩ := hrel
    have HB := hide hb
    by_cases hlt : k < (tx IS).size
    · have hki : k < IS.length := by rw [← unhide HS1]; exact hlt
      have hlt' : (k : Int) < ((tx IS).size : Int) := by omega
      have HLT := hide hlt
      have hbd := (unhide HIO).bound k hki
      have hat := tx_at IS k hlt
      have e0 : 0 ≤ at' + (k : Int) := by omega
      clear hb HB7
      have HIS := hide hki
      clear hki
      by_cases p1 : off ≤ at' + (k : Int)
      · have e1 : 0 ≤ at' + (k : Int) - off := by omega
        by_cases p2 : at' + (k : Int) - off < ((tx d).size : Int)
        · have hn := (unhide HIO).new k (unhide HIS) p1 (by rw [← unhide HS3]; exact p2)
          rw [hn] at hat
          obtain ⟨q, hq⟩ : ∃ q : Nat, at' + (k : Int) - off = (q : Int) := ⟨(at' + (k : Int) - off).toNat, by omega⟩
          rw [hq, Int.toNat_natCast] at hat
          have hqz : q < (tx d).size := by omega
          have hqi : (q : Int) < ((tx d).size : Int) := by omega
          have hat2 := tx_at d q hqz
          generalize d.getD q 0 = x at *
          clear hn
          clear HIS
          go_wp2
          go_quiet (fail)
          have HB6 := hide (below_then (unhide HB) (b_drewN wr nq))
          clear HB
          generalize wr.drewN nq = w6 at *
          go_wp2
          go_roundw
          case rel => exact ⟨k + 1, by have := unhide HLT; omega, by go_num, unhide HB6⟩
          case measure => have := unhide HLT; simp [intOf] <;> omega
        · have hn0 : ¬ (off ≤ at' + (k : Int) ∧ at' + (k : Int) - off < d.length) := fun h => p2 (by rw [unhide HS3]; exact h.2)
          have p2' : decide (at' + (k : Int) - off < ((tx d).size : Int)) = false := decide_eq_false p2
          by_cases r1 : k < (tx WAS).size
          · have hn := (unhide HIO).old k (unhide HIS) hn0 (by rw [← unhide HS2]; exact r1)
            rw [hn] at hat
            have hat2 := tx_at WAS k r1
            have r2 : (k : Int) < ((tx WAS).size : Int) := by omega
            have r3 : decide (((tx WAS).size : Int) ≤ (k : Int)) = false := decide_eq_false (by omega)
            have r4 : decide ((tx WAS).size ≤ k) = false := decide_eq_false (by omega)
            have r5 : ¬ (tx WAS).size ≤ k := by omega
            generalize WAS.getD k 0 = x at *
            clear hn hn0
            clear HIS
            go_wp2
            go_quiet (fail)
            have HB6 := hide (below_then (unhide HB) (b_drewN wr nq))
            clear HB
            generalize wr.drewN nq = w6 at *
            go_wp2
            go_roundw
            case rel => exact ⟨k + 1, by have := unhide HLT; omega, by go_num, unhide HB6⟩
            case measure => have := unhide HLT; simp [intOf] <;> omega
          · have hn := (unhide HIO).zero k (unhide HIS) hn0 (by rw [← unhide HS2]; omega)
            rw [hn] at hat
            have r2 : decide ((k : Int) < ((tx WAS).size : Int)) = false := decide_eq_false (by omega)
            have r3 : ((tx WAS).size : Int) ≤ (k : Int) := by omega
            have r4 : decide (k < (tx WAS).size) = false := decide_eq_false (by omega)
            have r5 : (tx WAS).size ≤ k := by omega
            clear hn hn0
            clear HIS
            go_wp2
            go_quiet (fail)
            have HB6 := hide (below_then (unhide HB) (b_drewN wr nq))
            clear HB
            generalize wr.drewN nq = w6 at *
            go_wp2
            go_roundw
            case rel => exact ⟨k + 1, by have := unhide HLT; omega, by go_num, unhide HB6⟩
            case measure => have := unhide HLT; simp [intOf] <;> omega
      · have hn0 : ¬ (off ≤ at' + (k : Int) ∧ at' + (k : Int) - off < d.length) := fun h => p1 h.1
        have p1' : decide (off ≤ at' + (k : Int)) = false := decide_eq_false p1
        by_cases r1 : k < (tx WAS).size
        · have hn := (unhide HIO).old k (unhide HIS) hn0 (by rw [← unhide HS2]; exact r1)
          rw [hn] at hat
          have hat2 := tx_at WAS k r1
          have r2 : (k : Int) < ((tx WAS).size : Int) := by omega
          have r3 : decide (((tx WAS).size : Int) ≤ (k : Int)) = false := decide_eq_false (by omega)
          have r4 : decide ((tx WAS).size ≤ k) = false := decide_eq_false (by omega)
          have r5 : ¬ (tx WAS).size ≤ k := by omega
          generalize WAS.getD k 0 = x at *
          clear hn hn0
          clear HIS
          go_wp2
          go_quiet (fail)
          have HB6 := hide (below_then (unhide HB) (b_drewN wr nq))
          clear HB
          generalize wr.drewN nq = w6 at *
          go_wp2
          go_roundw
          case rel => exact ⟨k + 1, by have := unhide HLT; omega, by go_num, unhide HB6⟩
          case measure => have := unhide HLT; simp [intOf] <;> omega
        · have hn := (unhide HIO).zero k (unhide HIS) hn0 (by rw [← unhide HS2]; omega)
          rw [hn] at hat
          have r2 : decide ((k : Int) < ((tx WAS).size : Int)) = false := decide_eq_false (by omega)
          have r3 : ((tx WAS).size : Int) ≤ (k : Int) := by omega
          have r4 : decide (k < (tx WAS).size) = false := decide_eq_false (by omega)
          have r5 : (tx WAS).size ≤ k := by omega
          clear hn hn0
          clear HIS
          go_wp2
          go_quiet (fail)
          have HB6 := hide (below_then (unhide HB) (b_drewN wr nq))
          clear HB
          generalize wr.drewN nq = w6 at *
          go_wp2
          go_roundw
          case rel => exact ⟨k + 1, by have := unhide HLT; omega, by go_num, unhide HB6⟩
          case measure => have := unhide HLT; simp [intOf] <;> omega
    · obtain rfl : k = (tx IS).size := by omega
      have hlt' : ¬ ((tx IS).size : Int) < ((tx IS).size : Int) := by omega
      clear hlt hb HB7
      go_wp2
      go_ret
      exact ⟨rfl, unhide HB⟩
end Go.Proofs.YtmpgaecnibakdaaDoor
