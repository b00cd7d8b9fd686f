/- What awake does: it answers true. -/
import Derived.Test.YtoogcejbhehoaaaDoorJp
namespace Go.Proofs.YtoogcejbhehoaaaDoor
open Go.ChangeShapes Go.WideShapes Go.ChangeAt Go.RowKit

theorem same_self (a a' : Option Addr) (c c' : Nat) (l : List (List UInt8)) (w : World) (hl : Ls w a l) (hl' : Ls w a' l) :
    Calls Tryd.prog 19 #[.slice a l.length c, .slice a' l.length c'] w fun e w' => e = .returned (.bool true) ∧ Below w.heap.size w w' := by
  have h := same_any a a' c c' l l w hl hl'
  rw [decide_eq_true rfl] at h
  exact h
theorem ab_path : walkR false [47, 97, 47, 98] = some [[97], [98]] := by decide
theorem seven_name : orphA 7 = .tuple #[.string ⟨#[0, 55]⟩, .int .i64 0] := by
  rw [orphA_ok ⟨by decide, by decide⟩]
  have e : Lib.itoa 7 = [55] := by
    show (if (7 : Int) < 0 then _ else Lib.decDigits 7) = _
    rw [if_neg (by decide), dec_one (by decide)]
    rfl
  rw [e]
  rfl

set_option maxHeartbeats 2000000 in
set_option maxRecDepth 10000 in
theorem awake_any (w : World) (hT : Tb w) : Calls Tryd.prog 8 #[] w fun e w' => e = .returned (.bool true) ∧ Below w.heap.size w w' := by
  have H1 := hide (split_any ⟨#[47, 97, 47, 98]⟩ w (by decide))
  rw [show bs ⟨#[47, 97, 47, 98]⟩ = [47, 97, 47, 98] from rfl, ab_path] at H1
  have H2 := hide (fun W (hW : Tb W) => orphan_any 7 W (by decide) hW)
  rw [seven_name] at H2
  have H3 := hide (fun W => name_any ⟨#[97]⟩ W (by decide))
  have H4 := hide (fun W => name_any ⟨#[46, 46]⟩ W (by decide))
  rw [show nameB (bs ⟨#[97]⟩) = true by decide] at H3
  rw [show nameB (bs ⟨#[46, 46]⟩) = false by decide] at H4
  have HT := hide hT
  clear hT
  go_enter Tryd.func8, Tryd.ntmps8
  go_wp2_with fail
  refine (unhide H1).mono ?_
  intro e w1 h1
  obtain ⟨a, cap, rfl, hl, hb⟩ := h1.of_some
  have HB1 := hide hb
  have L1 := hide hl
  clear h1 hl hb
  go_wp2_with fail
  refine (unhide H2 _ ((unhide HT).below (unhide HB1))).mono ?_
  rintro e w2 ⟨rfl, hb⟩
  have HB2 := hide (below_then (unhide HB1) hb)
  have L2 := hide ((unhide L1).below hb)
  clear hb L1
  obtain ⟨_, hls0 | ⟨b, off, rfl, hbw, hc⟩⟩ := unhide L2
  · exact absurd hls0 (by decide)
  have c0 : w2.cell? ⟨b, off, none⟩ = some (.string ⟨#[97]⟩) := hc 0 (by decide)
  have c1 : w2.cell? ⟨b, off + 1, none⟩ = some (.string ⟨#[98]⟩) := hc 1 (by decide)
  clear hc L2
  go_wp2_with fail
  refine (unhide H3 _).mono ?_
  rintro e w3 ⟨rfl, hb⟩
  have HB3 := hide (below_then (unhide HB2) hb)
  clear hb c0 c1
  go_wp2_with fail
  refine (unhide H4 _).mono ?_
  rintro e w4 ⟨rfl, hb⟩
  have HB4 := hide (below_then (unhide HB3) hb)
  clear hb
  go_wp2
  go_ret
  exact ⟨rfl, unhide HB4⟩
end Go.Proofs.YtoogcejbhehoaaaDoor
