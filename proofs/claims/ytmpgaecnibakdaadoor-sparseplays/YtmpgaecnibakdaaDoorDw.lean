/- The document's Write. -/
import Derived.Test.YtmpgaecnibakdaaDoorWr
namespace Go.Proofs.YtmpgaecnibakdaaDoor
open Go.ChangeShapes Go.WideShapes Go.ChangeAt Go.RowKit
attribute [local go_sem] Oper.semAt_some

theorem OwnB.keep {B : Nat} {w w' : World} {v : Value} {l : List UInt8} (h : OwnB B w v l) (hb : Below w.heap.size w w') : OwnB B w' v l := h.below hb
theorem writeR_64 {l : List Pc} (h64 : ∀ p ∈ l, p.2.length = 64) (off : Int) (d : List UInt8) (a : Int) (n : Nat) : ∀ p ∈ writeR l off d a n, p.2.length = 64 := by
  intro p hp
  rcases mem_write.1 hp with ⟨h, _⟩ | ⟨j, _, rfl⟩ | ⟨h, _⟩
  · exact h64 p h
  · exact rowOf_length _ _
  · exact h64 p h
theorem writeR_len (l : List Pc) (off : Int) (d : List UInt8) (a : Int) (n : Nat) : (writeR l off d a n).length ≤ 2 * l.length + n := by
  unfold writeR
  rw [List.length_append, List.length_append, List.length_map, List.length_range]
  have h1 := List.length_filter_le (fun p : Pc => decide (p.1 < a)) l
  have h2 := List.length_filter_le (fun p : Pc => decide (a + n ≤ p.1)) l
  omega

set_option maxHeartbeats 4000000 in
set_option maxRecDepth 10000 in
theorem writeD_any (a : Option Addr) (cap : Nat) (l : List Pc) (size off : Int) (d : List UInt8) (w : World) (hr : Ps w a l) (hl : l.length ≤ 4000) (hd : ∀ p ∈ l, p.2.length ≤ 10000) (o1 : off ≤ 9223372036854775807) (dl : d.length ≤ 1000000) :
    Calls Tryd.prog 15 #[.slice a l.length cap, .int .i64 size, .int .i64 off, .string (tx d)] w fun e w' => Ans3 w.heap.size (writeA l size off d) e w' ∧ Below w.heap.size w w' := by
  have HC := hide (chkD_any a cap l size w hr (by omega) (fun p hp => by have := hd p hp; omega))
  have hsz := tx_size d
  have hz6 : (tx d).size ≤ 1000000 := by omega
  by_cases hc : chkR l size = 0
  case neg =>
    rw [writeA_form hc]
    have h21 : chkR l size = 21 := (chk_two l size).resolve_left hc
    rw [h21] at HC
    clear hr hc h21 hsz
    go_enter Tryd.func15, Tryd.ntmps15
    go_wp2_with fail
    refine (unhide HC).mono ?_
    rintro e w1 ⟨rfl, hb1⟩
    have HB1 := hide hb1
    clear hb1 HC
    go_wp2
    go_ret3
    exact ⟨⟨_, rfl, OwnP.nil _ _⟩, unhide HB1⟩
  have hri := right_chk hc
  rw [hc] at HC
  by_cases ha : off < 0 ∨ 4096 < (d.length : Int)
  · rw [writeA_arg hc ha]
    clear hri hc hr
    by_cases a1 : off < 0
    · clear ha hsz
      go_enter Tryd.func15, Tryd.ntmps15
      go_wp2_with fail
      refine (unhide HC).mono ?_
      rintro e w1 ⟨rfl, hb1⟩
      have HB1 := hide hb1
      clear hb1 HC
      go_wp2
      go_ret3
      exact ⟨⟨_, rfl, OwnP.nil _ _⟩, unhide HB1⟩
    · have a2 : (4096 : Int) < ((tx d).size : Int) := by omega
      clear ha hsz
      go_enter Tryd.func15, Tryd.ntmps15
      go_wp2_with fail
      refine (unhide HC).mono ?_
      rintro e w1 ⟨rfl, hb1⟩
      have HB1 := hide hb1
      clear hb1 HC
      go_wp2
      go_ret3
      exact ⟨⟨_, rfl, OwnP.nil _ _⟩, unhide HB1⟩
  have a1 : ¬ off < 0 := by omega
  have a2 : ¬ (4096 : Int) < ((tx d).size : Int) := by omega
  by_cases hf : 4611686018427387904 - (d.length : Int) < off
  · rw [writeA_far hc ha hf]
    have a3 : 4611686018427387904 - ((tx d).size : Int) < off := by omega
    clear hri hc hr ha hsz hf
    go_enter Tryd.func15, Tryd.ntmps15
    go_wp2_with fail
    refine (unhide HC).mono ?_
    rintro e w1 ⟨rfl, hb1⟩
    have HB1 := hide hb1
    clear hb1 HC
    go_wp2
    go_ret3
    exact ⟨⟨_, rfl, OwnP.nil _ _⟩, unhide HB1⟩
  have a3 : ¬ 4611686018427387904 - ((tx d).size : Int) < off := by omega
  have HRR := hide (fun W (hW : Below w.heap.size w W) => hr.below hW)
  clear hr
  by_cases hv : d = []
  · rw [writeA_none hc ha hf hv]
    have hvv := void_of (s := tx d) (by rw [bs_tx]; exact hv)
    clear hri hc ha hsz hf hv
    go_enter Tryd.func15, Tryd.ntmps15
    go_wp2_with fail
    refine (unhide HC).mono ?_
    rintro e w1 ⟨rfl, hb1⟩
    have HE := hide (OwnP.empty w1)
    have hb2 := below_then hb1 (b_alloc w1 (.cells #[] 58))
    have HR := hide (unhide HRR _ hb2)
    have HB := hide hb2
    have hs : w1.heap.size ≤ (w1.alloc (.cells #[] 58)).heap.size := (b_alloc w1 (.cells #[] 58)).size
    have HS := hide hb1.size
    clear hb1 hb2 HC HRR
    go_wp2_with (at_builtin; refine app_ps rfl _ _ rfl rfl rfl (unhide HE) (unhide HR) (by rw [List.length_nil]; omega) hs ?_; intro a2 cap2 w2 ho hg; rw [List.length_nil, Nat.zero_add] at ho ⊢; have HO := hide (ho.base (unhide HS)); have HG := hide ((unhide HB).trans ((own_grown (Below.refl _ _) (unhide HE) hg hs).mono (unhide HS))); clear ho hg)
    go_ret3
    exact ⟨⟨_, rfl, unhide HO⟩, unhide HG⟩
  have hvv := full_of (s := tx d) (by rw [bs_tx]; exact hv)
  rw [writeA_ok hc ha hf hv]
  have s0 := hri.lo
  have s1 := hri.hi
  have h64 : ∀ p ∈ l, p.2.length = 64 := fun p hp => (hri.ok p hp).2.2.1
  have hlen1 : 1 ≤ d.length := by
    cases d with
    | nil => exact absurd rfl hv
    | cons x t => simp
  obtain ⟨n, hn⟩ : ∃ n, n = manyW off d.length := ⟨_, rfl⟩
  rw [← hn]
  obtain ⟨E, hE⟩ : ∃ E : Int, E = off + (d.length : Int) := ⟨_, rfl⟩
  have hEt : off + ((tx d).size : Int) = E := by rw [hsz]; omega
  rw [← hE]
  obtain ⟨A, hA⟩ : ∃ A, A = off / 64 := ⟨_, rfl⟩
  have hE2 : (E - 1) / 64 = A + (n : Int) - 1 := by
    rw [hn, hA]
    unfold manyW
    omega
  have hE3 : (E - 1).tdiv 64 = A + (n : Int) - 1 := by rw [Int.tdiv_eq_ediv_of_nonneg (by omega), hE2]
  have e0 : off ≤ E := by omega
  have e1 : E ≤ 4611686018427387904 := by omega
  rw [← hA]
  have hq : off.tdiv 64 = A := by rw [hA]; exact Int.tdiv_eq_ediv_of_nonneg (by omega)
  have A0 : 0 ≤ A := by omega
  have A1 : A + (n : Int) ≤ 72057594037927936 := by omega
  have hnb : n ≤ 100 := by rw [hn]; unfold manyW; omega
  have HDW := hide (fun k => docW_eq hri.so off d A k)
  have HSO := hide (fun k => write_sorted hri.so off d A k)
  have H64 := hide (fun k => writeR_64 h64 off d A k)
  have HLN := hide (fun k => writeR_len l off d A k)
  rw [← docW_eq hri.so off d A n]
  have H0 : Hid (docW off d A 0 l = l) := rfl
  have HOFF : Hid (A * 64 ≤ off ∧ off < A * 64 + 64) := by rw [hide_eq]; omega
  have HEO : Hid (E = off + (d.length : Int) ∧ (tx d).size = d.length) := ⟨hE, hsz⟩
  have HLAST : Hid (A * 64 + (n : Int) * 64 ≤ 4611686018427387904 + 64) := by rw [hide_eq]; omega
  clear hri hc ha hsz hf hv hn hE hA hlen1 h64
  go_enter Tryd.func15, Tryd.ntmps15
  go_wp2_with fail
  refine (unhide HC).mono ?_
  rintro e w1 ⟨rfl, hb1⟩
  have HE := hide (OwnP.empty w1)
  have hb2 := below_then hb1 (b_alloc w1 (.cells #[] 58))
  have HR := hide (unhide HRR _ hb2)
  have HB := hide hb2
  have hs : w1.heap.size ≤ (w1.alloc (.cells #[] 58)).heap.size := (b_alloc w1 (.cells #[] 58)).size
  have HS := hide hb1.size
  clear hb1 hb2 HC HRR
  go_wp2_with (at_builtin; refine app_ps rfl _ _ rfl rfl rfl (unhide HE) (unhide HR) (by rw [List.length_nil]; omega) hs ?_; intro a2 cap2 w2 ho hg; rw [List.length_nil, Nat.zero_add] at ho ⊢; have HO := hide (ho.base (unhide HS)); have HG := hide ((unhide HB).trans ((own_grown (Below.refl _ _) (unhide HE) hg hs).mono (unhide HS))); clear ho hg)
  clear hs HB HE HR HS
  go_loopw [0, 12] (fun r s wr => ∃ k : Nat, k ≤ n ∧ s = .int .i64 (A + (k : Int)) ∧ OwnP w.heap.size wr r (docW off d A k l) ∧ Below w.heap.size w wr) (fun _ s _ => (A + (n : Int) - intOf s).toNat)
  case atStart => exact ⟨0, Nat.zero_le _, by rw [Int.natCast_zero, Int.add_zero], by rw [unhide H0]; exact unhide HO, unhide HG⟩
  case round =>
    obtain ⟨k, hk, rfl, ho, hb⟩ := hrel
    have HOL := hide ho
    have HBL := hide hb
    clear ho hb HO HG
    by_cases hlt : k < n
    · have hlt' : A + (k : Int) ≤ A + (n : Int) - 1 := by omega
      have HNX : Hid (docW off d A (k + 1) l = putR (docW off d A k l) (pieceW (docW off d A k l) off d (A + (k : Int)))) := docW_succ off d A k l
      have hso := unhide HSO k
      have h64 := unhide H64 k
      have hln := unhide HLN k
      rw [← unhide HDW k] at hso h64 hln
      have HPW : Hid (pieceW (docW off d A k l) off d (A + (k : Int)) = (A + (k : Int), rowOf 64 fun j => if off ≤ (A + (k : Int)) * 64 + j ∧ (A + (k : Int)) * 64 + j - off < d.length then d.getD ((A + (k : Int)) * 64 + j - off).toNat 0 else atR (docW off d A k l) ((A + (k : Int)) * 64 + j))) := rfl
      rw [unhide HPW] at HNX
      obtain ⟨M, hM⟩ : ∃ M, M = docW off d A k l := ⟨_, rfl⟩
      rw [← hM] at HNX hso h64 hln HOL
      have m0 : 0 ≤ (A + (k : Int)) * 64 := by omega
      have m1 : (A + (k : Int)) * 64 ≤ 4611686018427387904 := by omega
      obtain ⟨I, hI⟩ : ∃ I : Int, I = A + (k : Int) := ⟨_, rfl⟩
      rw [← hI] at HNX hlt' m0 m1 ⊢
      have m2 : 0 ≤ I := by omega
      have m3 : I ≤ 72057594037927936 := by omega
      obtain ⟨a0, cap0, rfl⟩ := (unhide HOL).form
      have HPS := hide (OwnP.ps (unhide HOL))
      have hM4 : M.length ≤ 9000 := by omega
      have HAT := hide (fun place W (hW : Below wr.heap.size wr W) (p0 : 0 ≤ place) (p1 : place ≤ 9223372036854775807) => at_any a0 cap0 M place W ((unhide HPS).below hW) (by omega) hso h64 p0 p1)
      have HPUT := hide (fun W (hW : Below wr.heap.size wr W) da => put_any a0 cap0 M I da W ((unhide HPS).below hW) (by omega))
      obtain ⟨F, hF⟩ : ∃ F : Nat → UInt8, F = fun (j : Nat) => if off ≤ I * 64 + (j : Int) ∧ I * 64 + (j : Int) - off < d.length then d.getD (I * 64 + (j : Int) - off).toNat 0 else atR M (I * 64 + (j : Int)) := ⟨_, rfl⟩
      rw [← hF] at HNX
      have HF := hide hF
      have HI := hide hI
      have HBW := hide (unhide HBL).size
      have HMH := hide hM
      have HLT := hide hlt
      clear hI hF hM hln hlt hso h64
      go_wp2
      go_loopw [13, 14] (fun r s wq => ∃ j : Nat, j ≤ 64 ∧ s = .int .i64 j ∧ OwnB wr.heap.size wq r (rowOf j F) ∧ Below wr.heap.size wr wq) (fun _ s _ => 64 - (intOf s).toNat)
      case atStart => exact ⟨0, Nat.zero_le _, rfl, OwnB.nil _ _, Below.refl _ _⟩
      case round =>
        obtain ⟨j, hj, rfl, ho, hb⟩ := hrel
        have HOJ := hide ho
        have HBJ := hide hb
        have hsj := hb.size
        clear ho hb
        have HKL := hide (rowOf_length j F)
        by_cases hj64 : j < 64
        · have hj' : (j : Int) < 64 := by omega
          have HS1 : Hid (rowOf j F ++ [F j] = rowOf (j + 1) F) := (rowOf_succ _ _).symm
          generalize rowOf j F = R at *
          obtain ⟨a1, cap1, rfl⟩ := (unhide HOJ).form
          have n0 : 0 ≤ I * 64 + (j : Int) := by omega
          have n1 : I * 64 + (j : Int) ≤ 4611686018427388000 := by omega
          have n2 : -9223372036854775808 ≤ I * 64 + (j : Int) - off := by omega
          have n3 : I * 64 + (j : Int) - off ≤ 9223372036854775807 := by omega
          have hez := (unhide HEO).2
          by_cases hin : off ≤ I * 64 + (j : Int)
          · by_cases hin2 : I * 64 + (j : Int) - off < (d.length : Int)
            · have hin3 : I * 64 + (j : Int) - off < ((tx d).size : Int) := by omega
              have hx : F j = d.getD (I * 64 + (j : Int) - off).toNat 0 := by rw [unhide HF]; exact if_pos ⟨hin, hin2⟩
              obtain ⟨t, ht⟩ : ∃ t : Nat, I * 64 + (j : Int) - off = (t : Int) := ⟨(I * 64 + (j : Int) - off).toNat, by omega⟩
              have htz : t < (tx d).size := by omega
              have hat := tx_at d t htz
              rw [ht, Int.toNat_natCast] at hx
              rw [← hx] at hat
              have htz' : (t : Int) < ((tx d).size : Int) := by omega
              generalize F j = x at *
              clear hx hin2 hez n2 n3
              go_wp2_with (at_builtin; refine app_byte x rfl _ _ rfl rfl rfl hsj (unhide HOJ) (by rw [unhide HKL]; omega) ?_; intro a' cap' w' ho' hb'; have HO9 := hide ho'; have HB9 := hide ((unhide HBJ).trans hb'); clear ho' hb')
              go_roundw
              case rel => exact ⟨j + 1, by omega, by go_num, by rw [← unhide HS1]; exact unhide HO9, unhide HB9⟩
              case measure => simp [intOf] <;> omega
            · have hin3 : ¬ I * 64 + (j : Int) - off < ((tx d).size : Int) := by omega
              have hx : F j = atR M (I * 64 + (j : Int)) := by rw [unhide HF]; exact if_neg (fun h => hin2 h.2)
              have HA := hide (unhide HAT (I * 64 + (j : Int)) wr (unhide HBJ) n0 (by omega))
              rw [← hx] at HA
              generalize F j = x at *
              clear hx hin2 hez
              go_wp2_with fail
              refine (unhide HA).mono ?_
              rintro e w2 ⟨rfl, rfl⟩
              go_wp2_with (at_builtin; refine app_byte x rfl _ _ rfl rfl rfl hsj (unhide HOJ) (by rw [unhide HKL]; omega) ?_; intro a' cap' w' ho' hb'; have HO9 := hide ho'; have HB9 := hide ((unhide HBJ).trans hb'); clear ho' hb')
              go_roundw
              case rel => exact ⟨j + 1, by omega, by go_num, by rw [← unhide HS1]; exact unhide HO9, unhide HB9⟩
              case measure => simp [intOf] <;> omega
          · have hx : F j = atR M (I * 64 + (j : Int)) := by rw [unhide HF]; exact if_neg (fun h => hin h.1)
            have HA := hide (unhide HAT (I * 64 + (j : Int)) wr (unhide HBJ) n0 (by omega))
            rw [← hx] at HA
            generalize F j = x at *
            clear hx hez
            go_wp2_with fail
            refine (unhide HA).mono ?_
            rintro e w2 ⟨rfl, rfl⟩
            go_wp2_with (at_builtin; refine app_byte x rfl _ _ rfl rfl rfl hsj (unhide HOJ) (by rw [unhide HKL]; omega) ?_; intro a' cap' w' ho' hb'; have HO9 := hide ho'; have HB9 := hide ((unhide HBJ).trans hb'); clear ho' hb')
            go_roundw
            case rel => exact ⟨j + 1, by omega, by go_num, by rw [← unhide HS1]; exact unhide HO9, unhide HB9⟩
            case measure => simp [intOf] <;> omega
        · obtain rfl : j = 64 := by omega
          have hconv := conv_own (unhide HOJ)
          have HP := hide (unhide HPUT wr (unhide HBJ) (rowOf 64 F))
          generalize rowOf 64 F = R at *
          obtain ⟨a1, cap1, rfl⟩ := (unhide HOJ).form
          clear hj64
          go_wp2_with fail
          refine (unhide HP).mono ?_
          rintro e w2 ⟨a2, cap2, rfl, ho2, hb2⟩
          have HO9 := hide (ho2.base (Nat.le_trans (unhide HBW) hsj))
          have HB9 := hide (below_then (below_then (unhide HBL) (unhide HBJ)) hb2)
          clear ho2 hb2
          rw [unhide HMH] at HNX
          go_wp2
          go_roundw
          case rel => exact ⟨k + 1, by have := unhide HLT; omega, by rw [unhide HI]; go_num, by rw [unhide HNX, ← unhide HMH]; exact unhide HO9, unhide HB9⟩
          case measure => have := unhide HI; have := unhide HLT; simp [intOf] <;> omega
    · obtain rfl : k = n := by omega
      have hlt' : ¬ A + (k : Int) ≤ A + (k : Int) - 1 := by omega
      obtain ⟨R, hR⟩ : ∃ R, R = docW off d A k l := ⟨_, rfl⟩
      rw [← hR] at HOL
      have HRR := hide hR
      obtain ⟨a0, cap0, rfl⟩ := (unhide HOL).form
      clear hlt hR hk
      go_wp2
      go_ret3
      refine ⟨⟨_, rfl, ?_⟩, unhide HBL⟩
      show OwnP _ _ _ (docW off d A k l)
      rw [← unhide HRR]
      exact unhide HOL
end Go.Proofs.YtmpgaecnibakdaaDoor
