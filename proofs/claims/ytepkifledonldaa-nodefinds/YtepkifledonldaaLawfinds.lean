/- The walk of the law NodeFinds. -/
import Derived.Test.YtepkifledonldaaReffind
namespace Go.Proofs.Ytepkifledonldaa
open Go.ChangeShapes Go.WideShapes Go.ChangeAt Go.RowKit

set_option maxRecDepth 10000 in
set_option maxHeartbeats 4000000 in
theorem finds_walk (n : Nd) (ai ak : Option Addr) (ci ck : Nat) (key : ByteArray) (w : World) (hn : Has w n ai ak) (hl : Lens n) (hs : key.size ≤ maxLen) :
    Calls Try.prog 6 #[.agg #[.bool n.leaf, .slice ai n.its.length ci, .slice ak n.kds.length ck], .string key] w fun e w' => e = .returned (.bool true) ∧ Below w.heap.size w w' := by
  unfold maxLen at hs
  have hb0 := below_alloc w (.cells #[.bool n.leaf, .slice ai n.its.length ci, .slice ak n.kds.length ck] 25)
  have q0 : (w.alloc (.cells #[.bool n.leaf, .slice ai n.its.length ci, .slice ak n.kds.length ck] 25)).cell? ⟨w.heap.size, 0, none⟩ = some (.bool n.leaf) := by simp
  have q1 : (w.alloc (.cells #[.bool n.leaf, .slice ai n.its.length ci, .slice ak n.kds.length ck] 25)).cell? ⟨w.heap.size, 1, none⟩ = some (.slice ai n.its.length ci) := by simp
  have q2 : (w.alloc (.cells #[.bool n.leaf, .slice ai n.its.length ci, .slice ak n.kds.length ck] 25)).cell? ⟨w.heap.size, 2, none⟩ = some (.slice ak n.kds.length ck) := by simp
  have HB := hide hb0
  have HN := hide hn
  have HL := hide hl
  clear hb0 hn hl
  go_enter Try.func6, Try.ntmps6
  go_wp2_with fail
  obtain ⟨p, hp⟩ : ∃ y, y = w.heap.size := ⟨_, rfl⟩
  rw [← hp] at q0 q1 q2 ⊢
  generalize w.alloc (.cells #[.bool n.leaf, .slice ai n.its.length ci, .slice ak n.kds.length ck] 25) = w1 at *
  clear hp
  refine (awake_any _).mono ?_
  rintro x w2 ⟨rfl, hb⟩
  have q0 := cell_keep q0 hb
  have q1 := cell_keep q1 hb
  have q2 := cell_keep q2 hb
  have HB := hide (below_then (unhide HB) hb)
  clear hb
  go_wp2_with fail
  refine (great_any n ai ak ci ck _ ((unhide HN).grow (unhide HB)) (unhide HL).1 (unhide HL).2).mono ?_
  rintro x w3 ⟨g, rfl, hg, hb⟩
  have q0 := cell_keep q0 hb
  have q1 := cell_keep q1 hb
  have q2 := cell_keep q2 hb
  have HB := hide (below_then (unhide HB) hb)
  clear hb
  cases g with
  | true =>
    go_wp2
    go_ret
    exact ⟨rfl, unhide HB⟩
  | false =>
    have HF := hide (hg rfl)
    clear hg
    by_cases hlong : 1000 < key.size
    · go_wp2
      go_ret
      exact ⟨rfl, unhide HB⟩
    · have hi : n.its.length ≤ 1000000 := Nat.le_trans (unhide HF).its (by decide)
      have hk : n.kds.length ≤ 1000000 := Nat.le_trans (unhide HF).kds (by decide)
      go_wp2_with fail
      refine (find_any n ai ak ci ck key _ ((unhide HN).grow (unhide HB)) hi hk).mono ?_
      rintro x w4 ⟨rfl, hb⟩
      have q0 := cell_keep q0 hb
      have q1 := cell_keep q1 hb
      have q2 := cell_keep q2 hb
      have HB := hide (below_then (unhide HB) hb)
      clear hb
      go_wp2_with fail
      refine (refFind_any n ai ak ci ck key _ ((unhide HN).grow (unhide HB)) hi hk).mono ?_
      rintro x w5 ⟨rfl, hb⟩
      have HB := hide (below_then (unhide HB) hb)
      clear hb
      generalize findK (keysN n) key = T at *
      go_wp2
      go_ret
      exact ⟨rfl, unhide HB⟩
end Go.Proofs.Ytepkifledonldaa
