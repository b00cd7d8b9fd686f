/- The laws' own first look; the walk of the law NodeWrites. -/
import Derived.Test.YtepkifledonldaaRefenc
namespace Go.Proofs.Ytepkifledonldaa
open Go.ChangeShapes Go.WideShapes Go.ChangeAt Go.RowKit

def leaf1 : Nd := ⟨true, [(⟨#[97]⟩, ⟨#[98]⟩)], []⟩
def kids1 : Nd := ⟨false, [], [(⟨#[97]⟩, 5)]⟩
theorem right_leaf1 : rightB leaf1 = true := by decide +kernel
theorem right_kids1 : rightB kids1 = true := by decide +kernel
theorem bytes_leaf1 : ndL leaf1 = [1, 1, 1, 97, 1, 98] := by decide +kernel
theorem bytes_kids1 : ndL kids1 = [2, 1, 1, 97, 5] := by decide +kernel
theorem enc_leaf1 : encodeN leaf1 = (⟨#[1, 1, 1, 97, 1, 98]⟩, 0) := by
  have h : checkN leaf1 = 0 := by unfold checkN; rw [if_pos right_leaf1, bytes_leaf1]; rfl
  unfold encodeN
  rw [if_pos h, bytes_leaf1]
  rfl
theorem enc_kids1 : encodeN kids1 = (⟨#[2, 1, 1, 97, 5]⟩, 0) := by
  have h : checkN kids1 = 0 := by unfold checkN; rw [if_pos right_kids1, bytes_kids1]; rfl
  unfold encodeN
  rw [if_pos h, bytes_kids1]
  rfl
theorem has_leaf1 (w : World) : Has (w.alloc (.cells #[.string ⟨#[97]⟩, .string ⟨#[98]⟩] 47)) leaf1 (some ⟨w.heap.size, 0, none⟩) none := by
  refine ⟨.inr ⟨w.heap.size, 0, rfl, fun i x hx => ?_⟩, .inl rfl⟩
  rcases i with _ | i
  · simp [leaf1] at hx
    subst hx
    simp
  · simp [leaf1] at hx
theorem has_kids1 (w : World) : Has (w.alloc (.cells #[.string ⟨#[97]⟩, .int .i64 5] 49)) kids1 none (some ⟨w.heap.size, 0, none⟩) := by
  refine ⟨.inl rfl, .inr ⟨w.heap.size, 0, rfl, fun i x hx => ?_⟩⟩
  rcases i with _ | i
  · simp [kids1] at hx
    subst hx
    simp
  · simp [kids1] at hx

theorem first1 (W : World) : Calls Try.prog 10 #[.agg #[.bool true, .slice (some ⟨W.heap.size, 0, none⟩) 1 1, .slice none 0 0]] (W.alloc (.cells #[.string ⟨#[97]⟩, .string ⟨#[98]⟩] 47)) fun e w' =>
    e = .returned (.tuple #[.string ⟨#[1, 1, 1, 97, 1, 98]⟩, .int .i64 0]) ∧ Below W.heap.size W w' := by
  have h := encode_any leaf1 _ none 1 0 _ (has_leaf1 W) (by decide) (by decide)
  rw [enc_leaf1] at h
  exact h.mono fun e w' ⟨a, b⟩ => ⟨a, below_then (below_alloc _ _) b⟩
theorem first2 (W : World) : Calls Try.prog 10 #[.agg #[.bool false, .slice none 0 0, .slice (some ⟨W.heap.size, 0, none⟩) 1 1]] (W.alloc (.cells #[.string ⟨#[97]⟩, .int .i64 5] 49)) fun e w' =>
    e = .returned (.tuple #[.string ⟨#[2, 1, 1, 97, 5]⟩, .int .i64 0]) ∧ Below W.heap.size W w' := by
  have h := encode_any kids1 none _ 0 1 _ (has_kids1 W) (by decide) (by decide)
  rw [enc_kids1] at h
  exact h.mono fun e w' ⟨a, b⟩ => ⟨a, below_then (below_alloc _ _) b⟩

set_option maxRecDepth 10000 in
set_option maxHeartbeats 1000000 in
theorem awake_any (w : World) : Calls Try.prog 8 #[] w fun e w' => e = .returned (.bool true) ∧ Below w.heap.size w w' := by
  go_enter Try.func8, Try.ntmps8
  go_wp2_with fail
  refine (first1 w).mono ?_
  rintro x w1 ⟨rfl, hb1⟩
  have HB1 := hide hb1
  clear hb1
  go_wp2_with fail
  refine (first2 w1).mono ?_
  rintro x w2 ⟨rfl, hb2⟩
  have HB2 := hide hb2
  clear hb2
  go_wp2
  go_ret
  exact ⟨rfl, below_then (unhide HB1) (unhide HB2)⟩

/-- lists that came in are not longer than a slice may be -/
def Lens (n : Nd) : Prop := n.its.length ≤ maxLen ∧ n.kds.length ≤ maxLen
theorem Few.its {n : Nd} (h : Few n) : n.its.length ≤ 1100 := Nat.le_trans h.1 (by decide)
theorem Few.kds {n : Nd} (h : Few n) : n.kds.length ≤ 1100 := Nat.le_trans h.2.1 (by decide)

set_option maxRecDepth 10000 in
set_option maxHeartbeats 4000000 in
theorem writes_walk (n : Nd) (ai ak : Option Addr) (ci ck : Nat) (w : World) (hn : Has w n ai ak) (hl : Lens n) :
    Calls Try.prog 3 #[.agg #[.bool n.leaf, .slice ai n.its.length ci, .slice ak n.kds.length ck]] w fun e w' => e = .returned (.bool true) ∧ Below w.heap.size w w' := by
  have hb0 := below_alloc w (.cells #[.bool n.leaf, .slice ai n.its.length ci, .slice ak n.kds.length ck] 25)
  have q0 : (w.alloc (.cells #[.bool n.leaf, .slice ai n.its.length ci, .slice ak n.kds.length ck] 25)).cell? ⟨w.heap.size, 0, none⟩ = some (.bool n.leaf) := by simp
  have q1 : (w.alloc (.cells #[.bool n.leaf, .slice ai n.its.length ci, .slice ak n.kds.length ck] 25)).cell? ⟨w.heap.size, 1, none⟩ = some (.slice ai n.its.length ci) := by simp
  have q2 : (w.alloc (.cells #[.bool n.leaf, .slice ai n.its.length ci, .slice ak n.kds.length ck] 25)).cell? ⟨w.heap.size, 2, none⟩ = some (.slice ak n.kds.length ck) := by simp
  have HB := hide hb0
  have HN := hide hn
  have HL := hide hl
  clear hb0 hn hl
  go_enter Try.func3, Try.ntmps3
  go_wp2_with fail
  obtain ⟨p, hp⟩ : ∃ y, y = w.heap.size := ⟨_, rfl⟩
  rw [← hp] at q0 q1 q2 ⊢
  generalize w.alloc (.cells #[.bool n.leaf, .slice ai n.its.length ci, .slice ak n.kds.length ck] 25) = w1 at *
  clear hp
  refine (awake_any _).mono ?_
  rintro x w2 ⟨rfl, hb⟩
  have q0 := cell_keep q0 hb
  have q1 := cell_keep q1 hb
  have q2 := cell_keep q2 hb
  have HB := hide (below_then (unhide HB) hb)
  clear hb
  go_wp2_with fail
  refine (great_any n ai ak ci ck _ ((unhide HN).grow (unhide HB)) (unhide HL).1 (unhide HL).2).mono ?_
  rintro x w3 ⟨g, rfl, hg, hb⟩
  have q0 := cell_keep q0 hb
  have q1 := cell_keep q1 hb
  have q2 := cell_keep q2 hb
  have HB := hide (below_then (unhide HB) hb)
  clear hb
  cases g with
  | true =>
    go_wp2
    go_ret
    exact ⟨rfl, unhide HB⟩
  | false =>
    have HF := hide (hg rfl)
    clear hg
    go_wp2_with fail
    refine (encode_any n ai ak ci ck _ ((unhide HN).grow (unhide HB)) (unhide HF).its (unhide HF).kds).mono ?_
    rintro x w4 ⟨rfl, hb⟩
    have q0 := cell_keep q0 hb
    have q1 := cell_keep q1 hb
    have q2 := cell_keep q2 hb
    have HB := hide (below_then (unhide HB) hb)
    clear hb
    go_wp2_with fail
    refine (refEncode_any n ai ak ci ck _ ((unhide HN).grow (unhide HB)) (unhide HF).its (unhide HF).kds).mono ?_
    rintro x w5 ⟨rfl, hb⟩
    have q0 := cell_keep q0 hb
    have q1 := cell_keep q1 hb
    have q2 := cell_keep q2 hb
    have HB := hide (below_then (unhide HB) hb)
    clear hb
    go_wp2_with fail
    have KP : Hid (∀ wa wb, (Below w.heap.size w wa ∧ wa.cell? ⟨p, 0, none⟩ = some (.bool n.leaf) ∧ wa.cell? ⟨p, 1, none⟩ = some (.slice ai n.its.length ci) ∧ wa.cell? ⟨p, 2, none⟩ = some (.slice ak n.kds.length ck)) → Below wa.heap.size wa wb → (Below w.heap.size w wb ∧ wb.cell? ⟨p, 0, none⟩ = some (.bool n.leaf) ∧ wb.cell? ⟨p, 1, none⟩ = some (.slice ai n.its.length ci) ∧ wb.cell? ⟨p, 2, none⟩ = some (.slice ak n.kds.length ck))) :=
      fun wa wb h hb => ⟨below_then h.1 hb, cell_keep h.2.1 hb, cell_keep h.2.2.1 hb, cell_keep h.2.2.2 hb⟩
    have H0 := unhide KP _ _ ⟨unhide HB, q0, q1, q2⟩ (below_drew w5)
    have C1 := hide (fun W (hW : Below w.heap.size w W) => check_any n ai ak ci ck W ((unhide HN).grow hW) (unhide HF).its (unhide HF).kds)
    have C2 := hide (fun W (hW : Below w.heap.size w W) => refCheck_any n ai ak ci ck W ((unhide HN).grow hW) (unhide HF).its (unhide HF).kds)
    have C3 := hide (fun W (hW : Below w.heap.size w W) => size_any n ai ak ci ck W ((unhide HN).grow hW) (unhide HF).its (unhide HF).kds)
    have C4 := hide (fun W (hW : Below w.heap.size w W) => refSize_any n ai ak ci ck W ((unhide HN).grow hW) (unhide HF).its (unhide HF).kds)
    have HH0 := hide H0
    clear q0 q1 q2 HB H0
    generalize encodeN n = T at *
    generalize checkN n = U at *
    generalize sizeN n = V at *
    go_region_held3 (fun w' => Below w.heap.size w w' ∧ w'.cell? ⟨p, 0, none⟩ = some (.bool n.leaf) ∧ w'.cell? ⟨p, 1, none⟩ = some (.slice ai n.its.length ci) ∧ w'.cell? ⟨p, 2, none⟩ = some (.slice ak n.kds.length ck))
      (first | assumption | exact unhide HH0)
      (first
        | (go_at_call 12; refine (unhide C1 _ (unhide HH0).1).mono ?_; rintro e wa ⟨rfl, hb⟩; have HA := unhide KP _ _ (unhide HH0) hb; clear hb)
        | (go_at_call 13; refine (unhide C2 _ HA.1).mono ?_; rintro e wb ⟨rfl, hb⟩; have HC := unhide KP _ _ HA hb; clear hb)
        | (go_at_call 14; refine (unhide C3 _ HC.1).mono ?_; rintro e wc ⟨rfl, hb⟩; have HD := unhide KP _ _ HC hb; clear hb)
        | (go_at_call 15; refine (unhide C4 _ HD.1).mono ?_; rintro e wd ⟨rfl, hb⟩; have HE := unhide KP _ _ HD hb; clear hb))
    have HR := hide HE.1
    clear HA HC HD HE C1 C2 C3 C4 KP HH0
    go_wp2
    go_ret
    exact ⟨rfl, unhide HR⟩
end Go.Proofs.Ytepkifledonldaa
