/- The walk of the law PathOrphans. -/
import Derived.Test.YtoogcejbhehoaaaDoorAw
namespace Go.Proofs.YtoogcejbhehoaaaDoor
open Go.ChangeShapes Go.WideShapes Go.ChangeAt Go.RowKit

set_option maxHeartbeats 4000000 in
set_option maxRecDepth 10000 in
theorem orphans_walk (ino : Int) (s : ByteArray) (w : World) (hn : -9223372036854775808 ≤ ino ∧ ino ≤ 9223372036854775807) (hT : Tb w) (hE : Er w) : Calls Tryd.prog 6 #[.int .i64 ino, .string s] w fun e w' => e = .returned (.bool true) ∧ Below w.heap.size w w' := by
  have HA := hide (fun W (hW : Tb W) => awake_any W hW)
  have HT := hide hT
  have HE := hide hE
  clear hT hE
  by_cases hs : 1024 < s.size
  · have g : (1024 : Int) < (s.size : Int) := by omega
    go_enter Tryd.func6, Tryd.ntmps6
    go_wp2_with (go_at_call 8; refine (unhide HA _ (unhide HT)).mono ?_; rintro e w1 ⟨rfl, hb⟩)
    go_ret
    exact ⟨rfl, hb⟩
  have g : ¬ (1024 : Int) < (s.size : Int) := by omega
  have hs1 : s.size ≤ 1000000 := by omega
  have HB0 := hide (Below.refl w.heap.size w)
  have H22 := hide (fun W (hW : Tb W) => orphan_any ino W hn hW)
  have H23 := hide (fun W => refOrphan_any ino W hn)
  have H24 := hide (fun W (hW : Tb W) (hW' : Er W) => orphanOf_any s W hs1 hW hW')
  have H25 := hide (fun W => refOrphanOf_any s W hs1)
  clear hs hs1
  have HN := hide hn
  clear hn
  cases hS : orphR (bs s) with
  | none =>
    have e4 := ofA_none hS
    rw [e4] at H24 H25
    have H22n := hide (fun W (hW : Tb W) => orphan_any 0 W (by decide) hW)
    rw [orphA_no (by decide)] at H22n
    clear e4 hS
    cases hi : orphE ino with
    | none =>
      have e1 : orphA ino = .tuple #[.string ⟨#[]⟩, .int .i64 1] := by unfold orphA; rw [hi]; rfl
      rw [e1] at H22 H23
      have H24t := hide (fun W (hW : Tb W) (hW' : Er W) => orphanOf_any ⟨#[]⟩ W (by decide) hW hW')
      rw [show ofA (bs ⟨#[]⟩) = .tuple #[.int .i64 0, .bool false] from rfl] at H24t
      have H15 := hide (fun W => name_any ⟨#[]⟩ W (by decide))
      rw [show nameB (bs ⟨#[]⟩) = false from rfl] at H15
      clear e1 hi
      go_enter Tryd.func6, Tryd.ntmps6
      go_wp2_with fail
      refine (unhide HA _ ((unhide HT).below (unhide HB0))).mono ?_
      rintro e w1 ⟨rfl, hb⟩
      have HB1 := hide (below_then (unhide HB0) hb)
      clear hb  HB0 
      go_wp2_with fail
      refine (unhide H22 _ ((unhide HT).below (unhide HB1))).mono ?_
      rintro e w2 ⟨rfl, hb⟩
      have HB2 := hide (below_then (unhide HB1) hb)
      clear hb  HB1 
      go_wp2_with fail
      refine (unhide H23 _).mono ?_
      rintro e w3 ⟨rfl, hb⟩
      have HB3 := hide (below_then (unhide HB2) hb)
      clear hb  HB2 
      go_wp2_with fail
      refine (unhide H24 _ ((unhide HT).below (unhide HB3)) ((unhide HE).below (unhide HB3))).mono ?_
      rintro e w4 ⟨rfl, hb⟩
      have HB4 := hide (below_then (unhide HB3) hb)
      clear hb  HB3 
      go_wp2_with fail
      refine (unhide H25 _).mono ?_
      rintro e w4 ⟨rfl, rfl⟩
      go_wp2_with fail
      refine (unhide H24t _ ((unhide HT).below (unhide HB4)) ((unhide HE).below (unhide HB4))).mono ?_
      rintro e w5 ⟨rfl, hb⟩
      have HB5 := hide (below_then (unhide HB4) hb)
      clear hb  HB4 
      go_wp2_with fail
      refine (unhide H15 _).mono ?_
      rintro e w6 ⟨rfl, hb⟩
      have HB6 := hide (below_then (unhide HB5) hb)
      clear hb  HB5 
      go_wp2_with fail
      refine (unhide H22n _ ((unhide HT).below (unhide HB6))).mono ?_
      rintro e w7 ⟨rfl, hb⟩
      have HB7 := hide (below_then (unhide HB6) hb)
      clear hb  HB6 
      go_wp2
      go_ret
      exact ⟨rfl, unhide HB7⟩
    | some l =>
      have e1 : orphA ino = .tuple #[.string (tx l), .int .i64 0] := by unfold orphA; rw [hi]; rfl
      have hll := orphE_size hi
      have e2 : ofA l = .tuple #[.int .i64 ino, .bool true] := by
        unfold orphE at hi
        split at hi
        · rename_i hb
          injection hi with hi
          have h3 : orphR l = some ino.toNat := by
            rw [orphR_iff]
            refine ⟨by omega, hi.symm.trans ?_⟩
            unfold Lib.itoa
            rw [if_neg (by omega)]
          rw [ofA_some h3, Int.toNat_of_nonneg (by omega)]
        · cases hi
      have e3 : nameB l = false := by
        unfold orphE at hi
        split at hi
        · injection hi with hi
          rw [← hi, zero_noName]
        · cases hi
      rw [e1] at H22 H23
      have hts : (tx l).size ≤ 1000000 := by rw [tx_size]; omega
      have H24t := hide (fun W (hW : Tb W) (hW' : Er W) => orphanOf_any (tx l) W hts hW hW')
      rw [bs_tx, e2] at H24t
      have H15 := hide (fun W => name_any (tx l) W hts)
      rw [bs_tx, e3] at H15
      have hxx : ((tx l).toList == (tx l).toList) = true := by simp
      clear e1 e2 e3 hi hll hts
      generalize tx l = X at *
      go_enter Tryd.func6, Tryd.ntmps6
      go_wp2_with fail
      refine (unhide HA _ ((unhide HT).below (unhide HB0))).mono ?_
      rintro e w1 ⟨rfl, hb⟩
      have HB1 := hide (below_then (unhide HB0) hb)
      clear hb  HB0 
      go_wp2_with fail
      refine (unhide H22 _ ((unhide HT).below (unhide HB1))).mono ?_
      rintro e w2 ⟨rfl, hb⟩
      have HB2 := hide (below_then (unhide HB1) hb)
      clear hb  HB1 
      go_wp2_with fail
      refine (unhide H23 _).mono ?_
      rintro e w3 ⟨rfl, hb⟩
      have HB3 := hide (below_then (unhide HB2) hb)
      clear hb  HB2 
      go_wp2_with fail
      refine (unhide H24 _ ((unhide HT).below (unhide HB3)) ((unhide HE).below (unhide HB3))).mono ?_
      rintro e w4 ⟨rfl, hb⟩
      have HB4 := hide (below_then (unhide HB3) hb)
      clear hb  HB3 
      go_wp2_with fail
      refine (unhide H25 _).mono ?_
      rintro e w4 ⟨rfl, rfl⟩
      go_wp2_with fail
      refine (unhide H24t _ ((unhide HT).below (unhide HB4)) ((unhide HE).below (unhide HB4))).mono ?_
      rintro e w5 ⟨rfl, hb⟩
      have HB5 := hide (below_then (unhide HB4) hb)
      clear hb  HB4 
      go_wp2_with fail
      refine (unhide H15 _).mono ?_
      rintro e w6 ⟨rfl, hb⟩
      have HB6 := hide (below_then (unhide HB5) hb)
      clear hb  HB5 
      go_wp2_with fail
      refine (unhide H22n _ ((unhide HT).below (unhide HB6))).mono ?_
      rintro e w7 ⟨rfl, hb⟩
      have HB7 := hide (below_then (unhide HB6) hb)
      clear hb  HB6 
      go_wp2
      go_ret
      exact ⟨rfl, unhide HB7⟩
  | some n =>
    have e4 := ofA_some hS
    have e5 := ((orph_way (bs s)).1 n hS).2
    have e6 : orphA (n : Int) = .tuple #[.string s, .int .i64 0] := by
      unfold orphA
      rw [e5, show (some (bs s)).getD [] = bs s from rfl, tx_bs]
      rfl
    rw [e4] at H24 H25
    have hnb := ((orphR_iff _ _).1 hS).1
    have H22n := hide (fun W (hW : Tb W) => orphan_any (n : Int) W (by omega) hW)
    rw [e6] at H22n
    have hss : (s.toList == s.toList) = true := by simp
    clear e4 e5 e6 hS hnb
    cases hi : orphE ino with
    | none =>
      have e1 : orphA ino = .tuple #[.string ⟨#[]⟩, .int .i64 1] := by unfold orphA; rw [hi]; rfl
      rw [e1] at H22 H23
      have H24t := hide (fun W (hW : Tb W) (hW' : Er W) => orphanOf_any ⟨#[]⟩ W (by decide) hW hW')
      rw [show ofA (bs ⟨#[]⟩) = .tuple #[.int .i64 0, .bool false] from rfl] at H24t
      have H15 := hide (fun W => name_any ⟨#[]⟩ W (by decide))
      rw [show nameB (bs ⟨#[]⟩) = false from rfl] at H15
      clear e1 hi
      go_enter Tryd.func6, Tryd.ntmps6
      go_wp2_with fail
      refine (unhide HA _ ((unhide HT).below (unhide HB0))).mono ?_
      rintro e w1 ⟨rfl, hb⟩
      have HB1 := hide (below_then (unhide HB0) hb)
      clear hb  HB0 
      go_wp2_with fail
      refine (unhide H22 _ ((unhide HT).below (unhide HB1))).mono ?_
      rintro e w2 ⟨rfl, hb⟩
      have HB2 := hide (below_then (unhide HB1) hb)
      clear hb  HB1 
      go_wp2_with fail
      refine (unhide H23 _).mono ?_
      rintro e w3 ⟨rfl, hb⟩
      have HB3 := hide (below_then (unhide HB2) hb)
      clear hb  HB2 
      go_wp2_with fail
      refine (unhide H24 _ ((unhide HT).below (unhide HB3)) ((unhide HE).below (unhide HB3))).mono ?_
      rintro e w4 ⟨rfl, hb⟩
      have HB4 := hide (below_then (unhide HB3) hb)
      clear hb  HB3 
      go_wp2_with fail
      refine (unhide H25 _).mono ?_
      rintro e w4 ⟨rfl, rfl⟩
      go_wp2_with fail
      refine (unhide H24t _ ((unhide HT).below (unhide HB4)) ((unhide HE).below (unhide HB4))).mono ?_
      rintro e w5 ⟨rfl, hb⟩
      have HB5 := hide (below_then (unhide HB4) hb)
      clear hb  HB4 
      go_wp2_with fail
      refine (unhide H15 _).mono ?_
      rintro e w6 ⟨rfl, hb⟩
      have HB6 := hide (below_then (unhide HB5) hb)
      clear hb  HB5 
      go_wp2_with fail
      refine (unhide H22n _ ((unhide HT).below (unhide HB6))).mono ?_
      rintro e w7 ⟨rfl, hb⟩
      have HB7 := hide (below_then (unhide HB6) hb)
      clear hb  HB6 
      go_wp2
      go_ret
      exact ⟨rfl, unhide HB7⟩
    | some l =>
      have e1 : orphA ino = .tuple #[.string (tx l), .int .i64 0] := by unfold orphA; rw [hi]; rfl
      have hll := orphE_size hi
      have e2 : ofA l = .tuple #[.int .i64 ino, .bool true] := by
        unfold orphE at hi
        split at hi
        · rename_i hb
          injection hi with hi
          have h3 : orphR l = some ino.toNat := by
            rw [orphR_iff]
            refine ⟨by omega, hi.symm.trans ?_⟩
            unfold Lib.itoa
            rw [if_neg (by omega)]
          rw [ofA_some h3, Int.toNat_of_nonneg (by omega)]
        · cases hi
      have e3 : nameB l = false := by
        unfold orphE at hi
        split at hi
        · injection hi with hi
          rw [← hi, zero_noName]
        · cases hi
      rw [e1] at H22 H23
      have hts : (tx l).size ≤ 1000000 := by rw [tx_size]; omega
      have H24t := hide (fun W (hW : Tb W) (hW' : Er W) => orphanOf_any (tx l) W hts hW hW')
      rw [bs_tx, e2] at H24t
      have H15 := hide (fun W => name_any (tx l) W hts)
      rw [bs_tx, e3] at H15
      have hxx : ((tx l).toList == (tx l).toList) = true := by simp
      clear e1 e2 e3 hi hll hts
      generalize tx l = X at *
      go_enter Tryd.func6, Tryd.ntmps6
      go_wp2_with fail
      refine (unhide HA _ ((unhide HT).below (unhide HB0))).mono ?_
      rintro e w1 ⟨rfl, hb⟩
      have HB1 := hide (below_then (unhide HB0) hb)
      clear hb  HB0 
      go_wp2_with fail
      refine (unhide H22 _ ((unhide HT).below (unhide HB1))).mono ?_
      rintro e w2 ⟨rfl, hb⟩
      have HB2 := hide (below_then (unhide HB1) hb)
      clear hb  HB1 
      go_wp2_with fail
      refine (unhide H23 _).mono ?_
      rintro e w3 ⟨rfl, hb⟩
      have HB3 := hide (below_then (unhide HB2) hb)
      clear hb  HB2 
      go_wp2_with fail
      refine (unhide H24 _ ((unhide HT).below (unhide HB3)) ((unhide HE).below (unhide HB3))).mono ?_
      rintro e w4 ⟨rfl, hb⟩
      have HB4 := hide (below_then (unhide HB3) hb)
      clear hb  HB3 
      go_wp2_with fail
      refine (unhide H25 _).mono ?_
      rintro e w4 ⟨rfl, rfl⟩
      go_wp2_with fail
      refine (unhide H24t _ ((unhide HT).below (unhide HB4)) ((unhide HE).below (unhide HB4))).mono ?_
      rintro e w5 ⟨rfl, hb⟩
      have HB5 := hide (below_then (unhide HB4) hb)
      clear hb  HB4 
      go_wp2_with fail
      refine (unhide H15 _).mono ?_
      rintro e w6 ⟨rfl, hb⟩
      have HB6 := hide (below_then (unhide HB5) hb)
      clear hb  HB5 
      go_wp2_with fail
      refine (unhide H22n _ ((unhide HT).below (unhide HB6))).mono ?_
      rintro e w7 ⟨rfl, hb⟩
      have HB7 := hide (below_then (unhide HB6) hb)
      clear hb  HB6 
      go_wp2
      go_ret
      exact ⟨rfl, unhide HB7⟩
end Go.Proofs.YtoogcejbhehoaaaDoor
