/- The walk of the law NodeReads. -/
import Derived.Test.YtepkifledonldaaRefdeci
import Derived.Test.YtepkifledonldaaRefdeck
import Derived.Test.YtepkifledonldaaSame
namespace Go.Proofs.Ytepkifledonldaa
open Go.ChangeShapes Go.WideShapes Go.ChangeAt Go.RowKit

theorem refDecode_any (S : ByteArray) (w : World) (hS : S.size ≤ 4096) : Calls Try.prog 17 #[.string S] w fun x w' => DecSaid (decodeN S) w x w' := by
  by_cases h : 1007 < S.size ∨ ¬ ((byteR S 0).1 = 1 ∨ (byteR S 0).1 = 2) ∨ 1007 < (shortR (byteR S 0).2.1 (byteR S 0).2.2).1
  · rw [refDec_bad h]
    exact refDecode_bad S w hS h
  · by_cases h2 : (byteR S 0).1 = 1
    · exact refDecode_items S w (by omega) h2 (by omega)
    · exact refDecode_kids S w (by omega) (by omega) (by omega)
theorem decodeN_few (S : ByteArray) : (decodeN S).1.its.length ≤ 1100 ∧ (decodeN S).1.kds.length ≤ 1100 := by
  unfold decodeN
  split
  · rename_i h
    exact ⟨readN_its S h.1, readN_kds S h.1⟩
  · exact ⟨Nat.zero_le _, Nat.zero_le _⟩

set_option maxRecDepth 10000 in
set_option maxHeartbeats 4000000 in
theorem reads_walk (S : ByteArray) (w : World) (hs : S.size ≤ maxLen) :
    Calls Try.prog 4 #[.string S] w fun e w' => e = .returned (.bool true) ∧ Below w.heap.size w w' := by
  unfold maxLen at hs
  by_cases hlong : 4096 < S.size
  · go_enter Try.func4, Try.ntmps4
    go_wp2_with (go_at_call 8; refine (awake_any _).mono ?_; rintro x w0 ⟨rfl, hb0⟩)
    go_ret
    exact ⟨rfl, hb0⟩
  · have H1 := hide (fun W => decode_any S W)
    have H2 := hide (fun W => refDecode_any S W (by omega))
    obtain ⟨hfi, hfk⟩ := decodeN_few S
    generalize decodeN S = T at *
    obtain ⟨n, er⟩ := T
    simp only at hfi hfk
    go_enter Try.func4, Try.ntmps4
    go_wp2_with (go_at_call 8; refine (awake_any _).mono ?_; rintro x w0 ⟨rfl, hb0⟩; have HB := hide hb0; clear hb0)
    refine (unhide H1 _).mono ?_
    rintro x w1 ⟨ai, ak, ci, ck, rfl, hh, hb⟩
    have HB := hide (below_then (unhide HB) hb)
    have HH := hide hh
    clear hb hh
    simp only
    go_wp2_with fail
    have HN := hide (Nblk.new w1 n.leaf ai ak n.its.length ci n.kds.length ck)
    have hbn := below_alloc w1 (.cells #[.bool n.leaf, .slice ai n.its.length ci, .slice ak n.kds.length ck] 25)
    have HB := hide (below_then (unhide HB) hbn)
    have HH := hide ((unhide HH).grow hbn)
    obtain ⟨p, hp⟩ : ∃ y, y = w1.heap.size := ⟨_, rfl⟩
    rw [← hp] at HN ⊢
    generalize w1.alloc (.cells #[.bool n.leaf, .slice ai n.its.length ci, .slice ak n.kds.length ck] 25) = w2 at *
    clear hp hbn
    refine (unhide H2 _).mono ?_
    rintro x w3 ⟨bi, bk, di, dk, rfl, hh, hb⟩
    have HB := hide (below_then (unhide HB) hb)
    have HH := hide ((unhide HH).grow hb)
    have HN := hide ((unhide HN).below hb)
    have HG := hide hh
    clear hb hh
    simp only
    have hbn := below_alloc w3 (.cells #[.bool n.leaf, .slice bi n.its.length di, .slice bk n.kds.length dk] 25)
    have c0 := ((unhide HN).below hbn).cell0
    have c1 := ((unhide HN).below hbn).cell1
    have c2 := ((unhide HN).below hbn).cell2
    have HC := hide (same_any n ai ak bi bk ci ck di dk _ ((unhide HH).grow hbn) ((unhide HG).grow hbn) (by omega) (by omega))
    have HB := hide (below_then (unhide HB) hbn)
    clear hbn
    go_wp2_with fail
    refine (unhide HC).mono ?_
    rintro x w5 ⟨rfl, hb⟩
    have HB := hide (below_then (unhide HB) hb)
    clear hb
    go_wp2
    go_ret
    exact ⟨rfl, unhide HB⟩
end Go.Proofs.Ytepkifledonldaa
