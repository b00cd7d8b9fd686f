/- The program's Write. -/
import Derived.Test.YtmpgaecnibakdaaDoorPt
import Derived.OwnWalk
namespace Go.Proofs.YtmpgaecnibakdaaDoor
open Go.ChangeShapes Go.WideShapes Go.ChangeAt Go.RowKit
attribute [local go_sem] Oper.semAt_some

def writeA (l : List Pc) (size off : Int) (d : List UInt8) : List Pc × Int × Int :=
  if chkR l size ≠ 0 then ([], 0, 21) else if off < 0 ∨ 4096 < (d.length : Int) then ([], 0, 1) else if 4611686018427387904 - (d.length : Int) < off then ([], 0, 130)
  else if d = [] then (l, size, 0) else (writeR l off d (off / 64) (manyW off d.length), max size (off + d.length), 0)
def Ans3 (B : Nat) (x : List Pc × Int × Int) (e : Ending) (w' : World) : Prop := ∃ v, e = .returned (.tuple #[v, .int .i64 x.2.1, .int .i64 x.2.2]) ∧ OwnP B w' v x.1
theorem writeA_form {l : List Pc} {size off : Int} {d : List UInt8} (h : chkR l size ≠ 0) : writeA l size off d = ([], 0, 21) := if_pos h
theorem writeA_arg {l : List Pc} {size off : Int} {d : List UInt8} (h : chkR l size = 0) (h2 : off < 0 ∨ 4096 < (d.length : Int)) : writeA l size off d = ([], 0, 1) := by
  unfold writeA
  rw [if_neg (by omega), if_pos h2]
theorem writeA_far {l : List Pc} {size off : Int} {d : List UInt8} (h : chkR l size = 0) (h2 : ¬ (off < 0 ∨ 4096 < (d.length : Int))) (h3 : 4611686018427387904 - (d.length : Int) < off) : writeA l size off d = ([], 0, 130) := by
  unfold writeA
  rw [if_neg (by omega), if_neg h2, if_pos h3]
theorem writeA_none {l : List Pc} {size off : Int} {d : List UInt8} (h : chkR l size = 0) (h2 : ¬ (off < 0 ∨ 4096 < (d.length : Int))) (h3 : ¬ 4611686018427387904 - (d.length : Int) < off) (h4 : d = []) : writeA l size off d = (l, size, 0) := by
  unfold writeA
  rw [if_neg (by omega), if_neg h2, if_neg h3, if_pos h4]
theorem writeA_ok {l : List Pc} {size off : Int} {d : List UInt8} (h : chkR l size = 0) (h2 : ¬ (off < 0 ∨ 4096 < (d.length : Int))) (h3 : ¬ 4611686018427387904 - (d.length : Int) < off) (h4 : ¬ d = []) : writeA l size off d = (writeR l off d (off / 64) (manyW off d.length), max size (off + d.length), 0) := by
  unfold writeA
  rw [if_neg (by omega), if_neg h2, if_neg h3, if_neg h4]
theorem bytesP_length (l : List Pc) (i : Int) : (bytesP l i).length = 64 := by
  unfold bytesP
  split
  · rw [cpy_length, List.length_replicate]
  · rw [List.length_replicate]

theorem OwnP.putB {B : Nat} {w : World} {v : Value} {l : List Pc} {b : Nat} (h : OwnP B w v l) (hlt : ∀ g, v.ownBlock = some g → g ≠ b) (x : List UInt8) : OwnP B (putB w b x) v l := ownsRow_same h (fun g hg => putB_other (hlt g hg) x)

set_option maxHeartbeats 4000000 in
set_option maxRecDepth 10000 in
theorem write_any (a : Option Addr) (cap : Nat) (l : List Pc) (size off : Int) (d : List UInt8) (w : World) (hr : Ps w a l) (hcap : l.length ≤ cap) (hl : l.length ≤ 9000) (hd : ∀ p ∈ l, p.2.length ≤ 10000) (o1 : off ≤ 9223372036854775807) (dl : d.length ≤ 1000000) :
    Calls Tryd.prog 14 #[.slice a l.length cap, .int .i64 size, .int .i64 off, .string (tx d)] w fun e w' => Ans3 w.heap.size (writeA l size off d) e w' ∧ Below w.heap.size w w' := by
  have HC := hide (chk_any a cap l size w hr (by omega) (fun p hp => by have := hd p hp; omega))
  have hsz := tx_size d
  have hz6 : (tx d).size ≤ 1000000 := by omega
  by_cases hc : chkR l size = 0
  case neg =>
    rw [writeA_form hc]
    have h21 : chkR l size = 21 := (chk_two l size).resolve_left hc
    rw [h21] at HC
    clear hr hc h21 hsz
    go_enter Tryd.func14, Tryd.ntmps14
    go_wp2_with fail
    refine (unhide HC).mono ?_
    rintro e w1 ⟨rfl, hb1⟩
    have HB1 := hide hb1
    clear hb1 HC
    go_wp2
    go_ret3
    exact ⟨⟨_, rfl, OwnP.nil _ _⟩, unhide HB1⟩
  have hri := right_chk hc
  rw [hc] at HC
  by_cases ha : off < 0 ∨ 4096 < (d.length : Int)
  · rw [writeA_arg hc ha]
    clear hri hc hr
    by_cases a1 : off < 0
    · clear ha hsz
      go_enter Tryd.func14, Tryd.ntmps14
      go_wp2_with fail
      refine (unhide HC).mono ?_
      rintro e w1 ⟨rfl, hb1⟩
      have HB1 := hide hb1
      clear hb1 HC
      go_wp2
      go_ret3
      exact ⟨⟨_, rfl, OwnP.nil _ _⟩, unhide HB1⟩
    · have a2 : (4096 : Int) < ((tx d).size : Int) := by omega
      clear ha hsz
      go_enter Tryd.func14, Tryd.ntmps14
      go_wp2_with fail
      refine (unhide HC).mono ?_
      rintro e w1 ⟨rfl, hb1⟩
      have HB1 := hide hb1
      clear hb1 HC
      go_wp2
      go_ret3
      exact ⟨⟨_, rfl, OwnP.nil _ _⟩, unhide HB1⟩
  have a1 : ¬ off < 0 := by omega
  have a2 : ¬ (4096 : Int) < ((tx d).size : Int) := by omega
  by_cases hf : 4611686018427387904 - (d.length : Int) < off
  · rw [writeA_far hc ha hf]
    have a3 : 4611686018427387904 - ((tx d).size : Int) < off := by omega
    clear hri hc hr ha hsz hf
    go_enter Tryd.func14, Tryd.ntmps14
    go_wp2_with fail
    refine (unhide HC).mono ?_
    rintro e w1 ⟨rfl, hb1⟩
    have HB1 := hide hb1
    clear hb1 HC
    go_wp2
    go_ret3
    exact ⟨⟨_, rfl, OwnP.nil _ _⟩, unhide HB1⟩
  have a3 : ¬ 4611686018427387904 - ((tx d).size : Int) < off := by omega
  by_cases hv : d = []
  · rw [writeA_none hc ha hf hv]
    have hvv := void_of (s := tx d) (by rw [bs_tx]; exact hv)
    have HAL := hide (fun W (hW : Below w.heap.size w W) => alike_any a cap l W (hr.below hW) (by omega) hd)
    clear hri hc hr ha hsz hf hv
    go_enter Tryd.func14, Tryd.ntmps14
    go_wp2_with fail
    refine (unhide HC).mono ?_
    rintro e w1 ⟨rfl, hb1⟩
    have HB1 := hide hb1
    clear hb1 HC
    go_wp2_with fail
    refine (unhide HAL _ (unhide HB1)).mono ?_
    rintro e w2 ⟨a', cap', rfl, ho, hb2⟩
    have HO := hide (ho.base (unhide HB1).size)
    have HB2 := hide (below_then (unhide HB1) hb2)
    clear ho hb2
    go_wp2
    go_ret3
    exact ⟨⟨_, rfl, unhide HO⟩, unhide HB2⟩
  have hvv := full_of (s := tx d) (by rw [bs_tx]; exact hv)
  rw [writeA_ok hc ha hf hv]
  have s0 := hri.lo
  have s1 := hri.hi
  have h64 : ∀ p ∈ l, p.2.length = 64 := fun p hp => (hri.ok p hp).2.2.1
  have hlen1 : 1 ≤ d.length := by
    cases d with
    | nil => exact absurd rfl hv
    | cons x t => simp
  obtain ⟨n, hn⟩ : ∃ n, n = manyW off d.length := ⟨_, rfl⟩
  rw [← hn]
  obtain ⟨E, hE⟩ : ∃ E : Int, E = off + (d.length : Int) := ⟨_, rfl⟩
  have hE2 : (E + 63) / 64 = off / 64 + (n : Int) := by
    rw [hn]
    unfold manyW
    omega
  have hEt : off + ((tx d).size : Int) = E := by rw [hsz]; omega
  rw [← hE]
  have e0 : off ≤ E := by omega
  have e1 : E ≤ 4611686018427387904 := by omega
  have HT := hide (fun W (hW : Below w.heap.size w W) => touched_any a cap l off E W (hr.below hW) hri.so (by omega) (by omega) e0 e1)
  rw [hE2] at HT
  have HPL := hide (fun W => places_any E W (by omega) e1)
  rw [hE2] at HPL
  obtain ⟨A, hA⟩ : ∃ A, A = off / 64 := ⟨_, rfl⟩
  rw [← hA] at HT hE2 HPL ⊢
  have hq : off.tdiv 64 = A := by rw [hA]; exact Int.tdiv_eq_ediv_of_nonneg (by omega)
  have A0 : 0 ≤ A := by omega
  have A1 : A + (n : Int) ≤ 72057594037927936 := by omega
  obtain ⟨i, hi⟩ : ∃ i, i = cntB l A := ⟨_, rfl⟩
  obtain ⟨j, hj⟩ : ∃ j, j = cntB l (A + (n : Int)) := ⟨_, rfl⟩
  have hcl : i ≤ l.length := hi ▸ cnt_le l A
  have hcj : j ≤ l.length := hj ▸ cnt_le l _
  rw [← hi, ← hj] at HT
  have HE : Hid (writeR l off d A n = l.take i ++ (List.range n).map (fun (j : Nat) => pieceP l off d (A + (j : Int))) ++ l.drop j) := by
    show _ = _
    rw [hA, ← write_eq hri.so h64, ← hA, writeP, ← hi, ← hj]
  obtain ⟨T, hT⟩ : ∃ T, T = l.take i := ⟨_, rfl⟩
  obtain ⟨LD, hLD⟩ : ∃ LD, LD = l.drop j := ⟨_, rfl⟩
  have hTl : T.length = i := by rw [hT, List.length_take]; omega
  have hm : l.length - j = LD.length := by rw [hLD, List.length_drop]
  have HAL1 : Hid (∀ W, Below w.heap.size w W → Calls Tryd.prog 30 #[.slice a i cap] W fun e w' => ∃ a' cap', e = .returned (.slice a' i cap') ∧ OwnP W.heap.size w' (.slice a' i cap') T ∧ Below W.heap.size W w') := fun W hW => by
    have := alike_any a cap T W (hT ▸ Tw.take (hr.below hW) i) (by omega) (fun p hp => hd p (List.mem_of_mem_take (hT ▸ hp)))
    rw [hTl] at this
    exact this
  have HAL2 : Hid (∀ W A c, A = restA a cap j → Below w.heap.size w W → Calls Tryd.prog 30 #[.slice A LD.length c] W fun e w' => ∃ a' cap', e = .returned (.slice a' LD.length cap') ∧ OwnP W.heap.size w' (.slice a' LD.length cap') LD ∧ Below W.heap.size W w') := fun W A c hA hW =>
    alike_any A c LD W (by rw [hA, hLD]; exact Tw.drop (hr.below hW) hcap) (by omega) (fun p hp => hd p (List.mem_of_mem_drop (hLD ▸ hp)))
  have HBA := hide (fun W (hW : Below w.heap.size w W) I => bytesAt_any a cap l I W (hr.below hW) hri.so h64 (by omega))
  rw [← hT, ← hLD] at HE
  rw [unhide HE]
  have hnb : n ≤ 100 := by rw [hn]; unfold manyW; omega
  have HLAY : Hid (∀ (W : World) (q k : Nat), k < n → Bk W q 69 (bytesP l (A + (k : Int))) → Calls Tryd.prog 27 #[.slice (some ⟨q, 0, none⟩) 64 64, .string (tx d), .int .i64 (off - (A + (k : Int)) * 64)] W fun e w' => e = .returned (.tuple #[]) ∧ w' = putB W q (pieceP l off d (A + (k : Int))).2) := fun W q k hk hb => by
    have := lay_any q 69 (bytesP l (A + (k : Int))) 64 d (off - (A + (k : Int)) * 64) W hb (by rw [bytesP_length]; omega) (by rw [bytesP_length]; omega) (by omega) dl
    rw [bytesP_length] at this
    exact this
  have HPLEN : Hid (∀ k : Nat, k < n → (pieceP l off d (A + (k : Int))).2.length = 64) := fun k hk => by
    show (layR _ _ _).length = 64
    rw [lay_length _ _ _ (by rw [bytesP_length]; omega), bytesP_length]
  have hoff : off - A * 64 < 64 := by omega
  have hoff0 : 0 ≤ off - A * 64 := by omega
  have HAE : Hid (A * 64 ≤ off) := by rw [hide_eq]; omega
  have hHTl : Hid (T.length = i) := hTl
  have HS := hide (show max size E = max size E from rfl)
  clear hri hc hr ha hsz hf hv hn hE hA hi hj hT hLD hTl HE hlen1 h64
  go_enter Tryd.func14, Tryd.ntmps14
  go_wp2_with fail
  refine (unhide HC).mono ?_
  rintro e w1 ⟨rfl, hb1⟩
  have HB1 := hide hb1
  clear hb1 HC
  go_wp2_with fail
  refine (unhide HT _ (unhide HB1)).mono ?_
  rintro e w2 ⟨rfl, hb2⟩
  have HB2 := hide (below_then (unhide HB1) hb2)
  clear hb2 HB1
  have hic : i ≤ cap := by omega
  go_wp2_with (refine slice_front rfl _ _ rfl rfl rfl hic ?_)
  refine (unhide HAL1 _ (unhide HB2)).mono ?_
  rintro e w3 ⟨a3, cap3, rfl, ho3, hb3⟩
  have HO3 := hide (ho3.base (unhide HB2).size)
  have HB3 := hide (below_then (unhide HB2) hb3)
  clear ho3 hb3 HB2
  go_wp2
  go_loopw [15, 16] (fun r s wr => ∃ k : Nat, k ≤ n ∧ s = .int .i64 (A + (k : Int)) ∧ OwnP w.heap.size wr r (T ++ (List.range k).map (fun (j : Nat) => pieceP l off d (A + (j : Int)))) ∧ Below w.heap.size w wr) (fun _ s _ => (A + (n : Int) - intOf s).toNat)
  case atStart => exact ⟨0, Nat.zero_le _, by rw [Int.natCast_zero, Int.add_zero], by rw [List.range_zero, List.map_nil, List.append_nil]; exact unhide HO3, unhide HB3⟩
  case round =>
    obtain ⟨k, hk, rfl, ho, hb⟩ := hrel
    have HO := hide ho
    have HB := hide hb
    clear ho hb HO3 HB3
    by_cases hlt : k < n
    · have hlt' : A + (k : Int) < A + (n : Int) := by omega
      have HNX : Hid (T ++ (List.range (k + 1)).map (fun (j : Nat) => pieceP l off d (A + (j : Int))) = T ++ (List.range k).map (fun (j : Nat) => pieceP l off d (A + (j : Int))) ++ [(A + (k : Int), (pieceP l off d (A + (k : Int))).2)]) := by
        show _ = _
        rw [List.range_succ, List.map_append, List.append_assoc]
        rfl
      have HKL : Hid ((T ++ (List.range k).map (fun (j : Nat) => pieceP l off d (A + (j : Int)))).length ≤ 20000) := by
        rw [hide_eq, List.length_append, List.length_map, List.length_range, unhide hHTl]
        omega
      generalize (T ++ (List.range k).map (fun (j : Nat) => pieceP l off d (A + (j : Int)))) = R at *
      have HY := hide (unhide HPLEN k hlt)
      have HLY := hide (fun W q => unhide HLAY W q k hlt)
      generalize (pieceP l off d (A + (k : Int))).2 = Y at *
      have HBY := hide (fun W hW => unhide HBA W hW (A + (k : Int)))
      have HBYL := hide (bytesP_length l (A + (k : Int)))
      generalize bytesP l (A + (k : Int)) = X at *
      obtain ⟨a0, cap0, rfl⟩ := (unhide HO).form
      have m0 : 0 ≤ A + (k : Int) := by omega
      have m1 : A + (k : Int) ≤ 72057594037927936 := by omega
      have m2 : (A + (k : Int)) * 64 ≤ 4611686018427387904 := by omega
      have m3 : 0 ≤ (A + (k : Int)) * 64 := by omega
      have HK := hide hk
      obtain ⟨I, hI⟩ : ∃ I : Int, I = A + (k : Int) := ⟨_, rfl⟩
      rw [← hI] at HLY HBY HNX hlt' m0 m1 m2 m3 ⊢
      have hw : IntKind.i64.wrap (off - I * 64) = off - I * 64 := by rw [IntKind.wrap_i64]; omega
      have w0 : -9223372036854775808 ≤ off - I * 64 := by omega
      have w1 : off - I * 64 ≤ 9223372036854775807 := by omega
      have HI := hide hI
      clear hI hk
      go_wp2_with fail
      refine (unhide HPL _).mono ?_
      rintro e w4 ⟨rfl, rfl⟩
      go_wp2_with fail
      refine (unhide HBY _ (unhide HB)).mono ?_
      rintro e w5 ⟨rfl, hb5⟩
      have k1 := bk_new w5
      have b1 := b_alloc w5 (.cells #[.int .u8 0, .int .u8 0, .int .u8 0, .int .u8 0, .int .u8 0, .int .u8 0, .int .u8 0, .int .u8 0, .int .u8 0, .int .u8 0, .int .u8 0, .int .u8 0, .int .u8 0, .int .u8 0, .int .u8 0, .int .u8 0, .int .u8 0, .int .u8 0, .int .u8 0, .int .u8 0, .int .u8 0, .int .u8 0, .int .u8 0, .int .u8 0, .int .u8 0, .int .u8 0, .int .u8 0, .int .u8 0, .int .u8 0, .int .u8 0, .int .u8 0, .int .u8 0, .int .u8 0, .int .u8 0, .int .u8 0, .int .u8 0, .int .u8 0, .int .u8 0, .int .u8 0, .int .u8 0, .int .u8 0, .int .u8 0, .int .u8 0, .int .u8 0, .int .u8 0, .int .u8 0, .int .u8 0, .int .u8 0, .int .u8 0, .int .u8 0, .int .u8 0, .int .u8 0, .int .u8 0, .int .u8 0, .int .u8 0, .int .u8 0, .int .u8 0, .int .u8 0, .int .u8 0, .int .u8 0, .int .u8 0, .int .u8 0, .int .u8 0, .int .u8 0] 69)
      have HB5 := hide (below_then (below_then (unhide HB) hb5) b1)
      have HO5 := hide (((unhide HO).below hb5).below b1)
      have hs5 := (below_then (unhide HB) hb5).size
      generalize hW : w5.alloc (.cells #[.int .u8 0, .int .u8 0, .int .u8 0, .int .u8 0, .int .u8 0, .int .u8 0, .int .u8 0, .int .u8 0, .int .u8 0, .int .u8 0, .int .u8 0, .int .u8 0, .int .u8 0, .int .u8 0, .int .u8 0, .int .u8 0, .int .u8 0, .int .u8 0, .int .u8 0, .int .u8 0, .int .u8 0, .int .u8 0, .int .u8 0, .int .u8 0, .int .u8 0, .int .u8 0, .int .u8 0, .int .u8 0, .int .u8 0, .int .u8 0, .int .u8 0, .int .u8 0, .int .u8 0, .int .u8 0, .int .u8 0, .int .u8 0, .int .u8 0, .int .u8 0, .int .u8 0, .int .u8 0, .int .u8 0, .int .u8 0, .int .u8 0, .int .u8 0, .int .u8 0, .int .u8 0, .int .u8 0, .int .u8 0, .int .u8 0, .int .u8 0, .int .u8 0, .int .u8 0, .int .u8 0, .int .u8 0, .int .u8 0, .int .u8 0, .int .u8 0, .int .u8 0, .int .u8 0, .int .u8 0, .int .u8 0, .int .u8 0, .int .u8 0, .int .u8 0] 69) = w6 at *
      have HK1 := hide k1
      have hq5 : (World.heap w6).size = w5.heap.size + 1 := by rw [← hW]; simp
      have HNB : Hid (∀ g, (Value.slice a0 R.length cap0).ownBlock = some g → g ≠ w5.heap.size) := fun g hg => Nat.ne_of_lt (World.ownsRow.lt ((unhide HO).below hb5) g hg).2
      clear hb5 b1 k1 HO HB
      go_wp2_with (refine wpList_store_row rfl 69 _ _ rfl w5.heap.size _ rfl rfl 69 _ (unhide HK1) (by rw [info69, List.size_toArray, byt_length, unhide HBYL]) (by rw [List.size_toArray, List.size_toArray, byt_length, byt_length, unhide HBYL, List.length_replicate]) (byt_all _) ?_)
      have HK2 := hide (Bk.put (unhide HK1) X)
      have HO6 := hide (OwnP.putB (unhide HO5) (unhide HNB) X)
      have HB6 := hide (putB_below (unhide HB5) hs5 X)
      refine (unhide HLY _ _ (unhide HK2)).mono ?_
      rintro e w7 ⟨rfl, hw7⟩
      have HK3 : Hid (Bk w7 w5.heap.size 69 Y) := by rw [hide_eq, hw7]; exact Bk.put (unhide HK2) Y
      have HO7 : Hid (OwnP w.heap.size w7 (.slice a0 R.length cap0) R) := by rw [hide_eq, hw7]; exact OwnP.putB (unhide HO6) (unhide HNB) Y
      have HB7 : Hid (Below w.heap.size w w7) := by rw [hide_eq, hw7]; exact putB_below (unhide HB6) hs5 Y
      have hconv := conv_bk w7 w5.heap.size 69 Y (unhide HK3) 64
      rw [unhide HY] at hconv
      have hs7 := (unhide HB7).size
      clear hw7 hW hq5 hs5 HK1 HK2 HO5 HO6 HB5 HB6 hw w0 w1
      go_wp2_with (at_builtin; refine app_pc I Y rfl _ _ rfl rfl rfl hs7 (unhide HO7) (by have := unhide HKL; omega) ?_; intro a' cap' w' ho' hb'; have HO9 := hide ho'; have HB9 := hide ((unhide HB7).trans hb'); clear ho' hb')
      go_roundw
      case rel => exact ⟨k + 1, by omega, by rw [unhide HI]; go_num, by rw [unhide HNX]; exact unhide HO9, unhide HB9⟩
      case measure => have := unhide HI; simp [intOf] <;> omega
    · have hkn : k = n := by omega
      have hlt' : ¬ A + (k : Int) < A + (n : Int) := by omega
      rw [hkn] at HO hlt' ⊢
      have HKL : Hid ((T ++ (List.range n).map (fun (j : Nat) => pieceP l off d (A + (j : Int)))).length ≤ 20000) := by
        rw [hide_eq, List.length_append, List.length_map, List.length_range, unhide hHTl]
        omega
      obtain ⟨R, hR⟩ : ∃ R, R = (T ++ (List.range n).map (fun (j : Nat) => pieceP l off d (A + (j : Int)))) := ⟨_, rfl⟩
      have HRR := hide hR
      rw [← hR] at HO HKL
      obtain ⟨a0, cap0, rfl⟩ := (unhide HO).form
      have HLDL : Hid (LD.length ≤ 10000) := by rw [hide_eq]; omega
      clear hkn hlt hR hk
      go_wp2_with fail
      refine (unhide HPL _).mono ?_
      rintro e w4 ⟨rfl, rfl⟩
      have hjl : j ≤ l.length := hcj
      go_wp2_with (refine slice_rest rfl _ _ rfl rfl rfl hjl hm ?_; intro A2 c2 hA2 hc2; have HAL3 := hide (fun W hW => unhide HAL2 W A2 c2 hA2 hW); clear hA2 hc2)
      refine (unhide HAL3 _ (unhide HB)).mono ?_
      rintro e w5 ⟨a5, cap5, rfl, ho5, hb5⟩
      have HP5 := hide (OwnP.ps ho5)
      have HO5 := hide ((unhide HO).below hb5)
      have HB5 := hide (below_then (unhide HB) hb5)
      have hs5 := (unhide HB5).size
      clear ho5 hb5 HO HB HAL3
      go_wp2_with (at_builtin; refine app_ps rfl _ _ rfl rfl rfl (unhide HO5) (unhide HP5) (by have := unhide HKL; have := unhide HLDL; omega) hs5 ?_; intro a6 cap6 w6 ho6 hg6; have HO9 := hide ho6; have HB9 := hide (own_grown (unhide HB5) (unhide HO5) hg6 hs5); clear ho6 hg6)
      go_ret3
      refine ⟨⟨_, rfl, ?_⟩, unhide HB9⟩
      show OwnP _ _ _ (T ++ (List.range n).map (fun (j : Nat) => pieceP l off d (A + (j : Int))) ++ LD)
      rw [← unhide HRR]
      exact unhide HO9
end Go.Proofs.YtmpgaecnibakdaaDoor
