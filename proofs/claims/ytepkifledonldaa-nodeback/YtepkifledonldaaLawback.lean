/- The walk of the law NodeBack. -/
import Derived.Test.YtepkifledonldaaSame
import Derived.Test.YtepkifledonldaaCodec
namespace Go.Proofs.Ytepkifledonldaa
open Go.ChangeShapes Go.WideShapes Go.ChangeAt Go.RowKit

theorem decode_back {n : Nd} {t : ByteArray} (h : encodeN n = (t, 0)) : decodeN t = (n, 0) ∧ sizeN n = t.size := by
  have h' := h
  unfold encodeN at h
  split at h
  · rename_i hc
    have hr := checkN_right hc
    have ht : strOf (ndL n) = t := (Prod.ext_iff.1 h).1
    have hb : bn t = ndL n := by rw [← ht, bn_strOf _ (ndL_lt n)]
    have hz : t.size ≤ 1007 := by
      unfold checkN at hc
      rw [if_pos hr] at hc
      rw [← bn_length, hb]
      split at hc
      · omega
      · omega
    obtain ⟨_, _, L1, e1, _⟩ := read_right hb hr hz
    refine ⟨?_, ?_⟩
    · unfold decodeN
      rw [e1, if_pos ⟨hz, h'⟩]
    · unfold sizeN
      rw [if_pos hr, ← hb, bn_length]
  · rename_i hc
    exact absurd (Prod.ext_iff.1 h).2 hc
theorem encode_none {n : Nd} {t : ByteArray} {e : Nat} (h : encodeN n = (t, e)) (he : e ≠ 0) : t = ⟨#[]⟩ := by
  unfold encodeN at h
  split at h
  · exact absurd (Prod.ext_iff.1 h).2.symm he
  · exact (Prod.ext_iff.1 h).1.symm
theorem encode_nd0 : encodeN nd0 = (⟨#[]⟩, 60) := by
  have hr : rightB nd0 = false := rfl
  have hc : checkN nd0 = 60 := by unfold checkN; rw [hr]; rfl
  unfold encodeN
  rw [hc]
  rfl
theorem decode_cases (s : ByteArray) : (∃ m, decodeN s = (m, 0) ∧ encodeN m = (s, 0)) ∨ decodeN s = (nd0, 60) := by
  unfold decodeN
  split
  · rename_i h
    exact .inl ⟨_, rfl, h.2⟩
  · exact .inr rfl
theorem decodeN_few' (S : ByteArray) : (decodeN S).1.its.length ≤ 1100 ∧ (decodeN S).1.kds.length ≤ 1100 := by
  unfold decodeN
  split
  · rename_i h
    exact ⟨readN_its S h.1, readN_kds S h.1⟩
  · exact ⟨Nat.zero_le _, Nat.zero_le _⟩


set_option maxRecDepth 10000 in
set_option maxHeartbeats 8000000 in
theorem back_walk (n : Nd) (ai ak : Option Addr) (ci ck : Nat) (s : ByteArray) (w : World) (hn : Has w n ai ak) (hl : Lens n) (hs : s.size ≤ maxLen) :
    Calls Try.prog 5 #[.agg #[.bool n.leaf, .slice ai n.its.length ci, .slice ak n.kds.length ck], .string s] w fun e w' => e = .returned (.bool true) ∧ Below w.heap.size w w' := by
  unfold maxLen at hs
  have HB := hide (below_alloc w (.cells #[.bool n.leaf, .slice ai n.its.length ci, .slice ak n.kds.length ck] 25))
  have hq := Nblk.new w n.leaf ai ak n.its.length ci n.kds.length ck
  have HN := hide hn
  have HL := hide hl
  clear hn hl
  go_enter Try.func5, Try.ntmps5
  go_wp2_with fail
  obtain ⟨p, hp⟩ : ∃ y, y = w.heap.size := ⟨_, rfl⟩
  rw [← hp] at hq ⊢
  generalize w.alloc (.cells #[.bool n.leaf, .slice ai n.its.length ci, .slice ak n.kds.length ck] 25) = w1 at *
  clear hp
  refine (awake_any _).mono ?_
  rintro x w2 ⟨rfl, hb⟩
  have HQ := hide (hq.below hb)
  have HB := hide (below_then (unhide HB) hb)
  clear hb hq
  have q0 := (unhide HQ).cell0
  have q1 := (unhide HQ).cell1
  have q2 := (unhide HQ).cell2
  go_wp2_with fail
  refine (great_any n ai ak ci ck _ ((unhide HN).grow (unhide HB)) (unhide HL).1 (unhide HL).2).mono ?_
  rintro x w3 ⟨g, rfl, hg, hb⟩
  have HQ := hide ((unhide HQ).below hb)
  have HB := hide (below_then (unhide HB) hb)
  clear hb q0 q1 q2
  cases g with
  | true =>
    go_wp2
    go_ret
    exact ⟨rfl, unhide HB⟩
  | false =>
    have HF := hide (hg rfl)
    clear hg
    by_cases hlong : 4096 < s.size
    · go_wp2
      go_ret
      exact ⟨rfl, unhide HB⟩
    · have hI := (unhide HF).its
      have hK := (unhide HF).kds
      have q0 := (unhide HQ).cell0
      have q1 := (unhide HQ).cell1
      have q2 := (unhide HQ).cell2
      go_wp2_with fail
      refine (encode_any n ai ak ci ck _ ((unhide HN).grow (unhide HB)) hI hK).mono ?_
      rintro x w4 ⟨rfl, hb⟩
      have HQ := hide ((unhide HQ).below hb)
      have HB := hide (below_then (unhide HB) hb)
      clear hb q0 q1 q2
      have hback := fun t => decode_back (n := n) (t := t)
      have hnone := fun t e => encode_none (n := n) (t := t) (e := e)
      generalize encodeN n = E at *
      obtain ⟨t, e⟩ := E
      simp only
      obtain ⟨hfi, hfk⟩ := decodeN_few' t
      go_wp2_with fail
      refine (decode_any t _).mono ?_
      rintro x w5 ⟨bi, bk, di, dk, rfl, hh, hb⟩
      have HQ := hide ((unhide HQ).below hb)
      have HB := hide (below_then (unhide HB) hb)
      have HH := hide hh
      clear hb hh
      by_cases he : e = 0
      · subst he
        obtain ⟨hd, hz⟩ := hback t rfl
        rw [hd] at HH hfi hfk ⊢
        simp only at HH hfi hfk ⊢
        have HZ := hide hz
        clear hback hnone hd hz
        have hbn := below_alloc w5 (.cells #[.bool n.leaf, .slice bi n.its.length di, .slice bk n.kds.length dk] 25)
        have q0 := ((unhide HQ).below hbn).cell0
        have q1 := ((unhide HQ).below hbn).cell1
        have q2 := ((unhide HQ).below hbn).cell2
        have HC := hide (same_any n bi bk ai ak di dk ci ck _ ((unhide HH).grow hbn) (((unhide HN).grow (unhide HB)).grow hbn) (by omega) (by omega))
        have HQ := hide ((unhide HQ).below hbn)
        have HB := hide (below_then (unhide HB) hbn)
        clear hbn
        go_wp2_with fail
        refine (unhide HC).mono ?_
        rintro x w6 ⟨rfl, hb⟩
        have HQ := hide ((unhide HQ).below hb)
        have HB := hide (below_then (unhide HB) hb)
        clear hb q0 q1 q2 HC
        have q0 := (unhide HQ).cell0
        have q1 := (unhide HQ).cell1
        have q2 := (unhide HQ).cell2
        have HS := hide (size_any n ai ak ci ck _ ((unhide HN).grow (unhide HB)) hI hK)
        rw [unhide HZ] at HS
        go_wp2_with fail
        refine (unhide HS).mono ?_
        rintro x w7 ⟨rfl, hb⟩
        have HB := hide (below_then (unhide HB) hb)
        clear hb q0 q1 q2 HS HH
        go_wp2_with fail
        have hfew := decodeN_few' s
        refine (decode_any s _).mono ?_
        rintro x w8 ⟨ei, ek, gi, gk, rfl, hh, hb⟩
        have HB := hide (below_then (unhide HB) hb)
        have HH := hide hh
        clear hb hh
        rcases decode_cases s with ⟨m, hd, hm⟩ | hd
        · rw [hd] at HH hfew ⊢
          simp only at HH hfew ⊢
          have hbn := below_alloc w8 (.cells #[.bool m.leaf, .slice ei m.its.length gi, .slice ek m.kds.length gk] 25)
          have HE := hide (encode_any m ei ek gi gk _ ((unhide HH).grow hbn) hfew.1 hfew.2)
          rw [hm] at HE
          have HB := hide (below_then (unhide HB) hbn)
          have hss := str_same s
          clear hbn hd hm hfew
          go_wp2_with fail
          refine (unhide HE).mono ?_
          rintro x w9 ⟨rfl, hb⟩
          have HB := hide (below_then (unhide HB) hb)
          clear hb
          go_wp2
          go_ret
          exact ⟨rfl, unhide HB⟩
        · rw [hd] at HH ⊢
          simp only at HH ⊢
          have hbn := below_alloc w8 (.cells #[.bool nd0.leaf, .slice ei nd0.its.length gi, .slice ek nd0.kds.length gk] 25)
          have HE := hide (encode_any nd0 ei ek gi gk _ ((unhide HH).grow hbn) (Nat.zero_le _) (Nat.zero_le _))
          rw [encode_nd0] at HE
          have HB := hide (below_then (unhide HB) hbn)
          clear hbn hd hfew
          go_wp2_with fail
          refine (unhide HE).mono ?_
          rintro x w9 ⟨rfl, hb⟩
          have HB := hide (below_then (unhide HB) hb)
          clear hb
          go_wp2
          go_ret
          exact ⟨rfl, unhide HB⟩
      · obtain rfl := hnone t e rfl he
        have f0 : ((e : Int) == 0) = false := beq_eq_false_iff_ne.2 (by omega)
        have f1 : ((e : Int) != 0) = true := bne_iff_ne.2 (by omega)
        have hbn := below_alloc w5 (.cells #[.bool (decodeN ⟨#[]⟩).1.leaf, .slice bi (decodeN ⟨#[]⟩).1.its.length di, .slice bk (decodeN ⟨#[]⟩).1.kds.length dk] 25)
        have HB := hide (below_then (unhide HB) hbn)
        clear hback hnone he hbn HH
        generalize decodeN ⟨#[]⟩ = DD at *
        go_wp2_with fail
        have hfew := decodeN_few' s
        refine (decode_any s _).mono ?_
        rintro x w8 ⟨ei, ek, gi, gk, rfl, hh, hb⟩
        have HB := hide (below_then (unhide HB) hb)
        have HH := hide hh
        clear hb hh
        rcases decode_cases s with ⟨m, hd, hm⟩ | hd
        · rw [hd] at HH hfew ⊢
          simp only at HH hfew ⊢
          have hbn := below_alloc w8 (.cells #[.bool m.leaf, .slice ei m.its.length gi, .slice ek m.kds.length gk] 25)
          have HE := hide (encode_any m ei ek gi gk _ ((unhide HH).grow hbn) hfew.1 hfew.2)
          rw [hm] at HE
          have HB := hide (below_then (unhide HB) hbn)
          have hss := str_same s
          clear hbn hd hm hfew
          go_wp2_with fail
          refine (unhide HE).mono ?_
          rintro x w9 ⟨rfl, hb⟩
          have HB := hide (below_then (unhide HB) hb)
          clear hb
          go_wp2
          go_ret
          exact ⟨rfl, unhide HB⟩
        · rw [hd] at HH ⊢
          simp only at HH ⊢
          have hbn := below_alloc w8 (.cells #[.bool nd0.leaf, .slice ei nd0.its.length gi, .slice ek nd0.kds.length gk] 25)
          have HE := hide (encode_any nd0 ei ek gi gk _ ((unhide HH).grow hbn) (Nat.zero_le _) (Nat.zero_le _))
          rw [encode_nd0] at HE
          have HB := hide (below_then (unhide HB) hbn)
          clear hbn hd hfew
          go_wp2_with fail
          refine (unhide HE).mono ?_
          rintro x w9 ⟨rfl, hb⟩
          have HB := hide (below_then (unhide HB) hb)
          clear hb
          go_wp2
          go_ret
          exact ⟨rfl, unhide HB⟩
end Go.Proofs.Ytepkifledonldaa
