/- The walk of the law CrcSums. -/
import Derived.Test.YtknlgclbdoencaaDoorInv
import Derived.Deep.RegionHeld3
import Derived.BigQuiet
namespace Go.Proofs.YtknlgclbdoencaaDoor
open Go.ChangeShapes Go.WideShapes Go.ChangeAt Go.RowKit

theorem sum_one (g cap : Nat) (v : Value) (l : List Nat) (w : World) (hT : Tab w) (hb : Byt w v l) (hl : ∀ b ∈ l, b < 256) (hlen : l.length ≤ 8192) (hc : w.cell? ⟨g, 0, none⟩ = some v) :
    Calls Tryd.prog 10 #[.slice (some ⟨g, 0, none⟩) 1 cap] w fun e w' => e = .returned (.int .u32 (Crc.sum l : Nat)) ∧ w' = w := by
  have h := sum_any g 0 cap [(v, l)] w hT (by simp) (fun p hp => by simp at hp; subst hp; exact ⟨hb, hl, by show l.length ≤ _; omega⟩)
    (fun i hi => by
      have : i = 0 := by simpa using hi
      subst this
      exact hc)
  have e : bytesOf [(v, l)] = l := by simp [bytesOf]
  rw [e] at h
  exact h

set_option maxHeartbeats 400000 in
theorem sums_long (c : Int) (a : Option Addr) (len cap : Nat) (w : World) (hT : Tab w) (h : 8192 < len) (hlen : len ≤ 9223372036854775807) :
    Calls Tryd.prog 3 #[.int .u32 c, .slice a len cap] w fun e w' => e = .returned (.bool true) ∧ w' = w := by
  have HA := hide (awake_any w hT)
  clear hT
  go_enter Tryd.func3, Tryd.ntmps3
  go_wp2_with (go_at_call 8; refine (unhide HA).mono ?_; rintro e w' ⟨rfl, rfl⟩)
  go_ret
  exact ⟨rfl, rfl⟩

theorem kept {W w' : World} {v : Value} {l : List Nat} (hb : Byt W v l) (h : Below W.heap.size W w') : Below W.heap.size W w' ∧ (convert 23 9 v).run Tryd.prog w' = .ok (.string (strOf l)) w' :=
  ⟨h, conv_any v l w' (hb.below h)⟩
theorem below_alloc {W w' : World} (h : Below W.heap.size W w') (o : Obj) : Below W.heap.size W (w'.alloc o) := h.alloc h.size o
theorem new_cell (w : World) (v : Value) (t : TypeId) : (w.alloc (.cells #[v] t)).cell? ⟨w.heap.size, 0, none⟩ = some v := by simp

set_option maxHeartbeats 1000000 in
theorem sums_short (c : Int) (a : Option Addr) (cap : Nat) (l : List Nat) (w : World) (hT : Tab w) (hc : 0 ≤ c ∧ c < 4294967296) (hlen : l.length ≤ 8192) (hl : ∀ b ∈ l, b < 256) (hb : Byt w (.slice a l.length cap) l) :
    Calls Tryd.prog 3 #[.int .u32 c, .slice a l.length cap] w fun e w' => e = .returned (.bool true) ∧ Below w.heap.size w w' := by
  have HA := hide (awake_any w hT)
  have HT := hide hT
  have HB := hide hb
  have HL := hide hl
  have hconv := conv_any _ l w hb
  have HN := hide (bn_strOf l hl)
  have HZ := hide (strOf_size l)
  clear hT hb hl
  go_enter Tryd.func3, Tryd.ntmps3
  go_wp2_with (first
    | (go_at_call 8; refine (unhide HA).mono ?_; rintro e w' ⟨rfl, rfl⟩)
    | (go_at_call 9; refine (refSum_any _ _ (by rw [unhide HZ]; unfold maxLen; omega)).mono ?_; rw [unhide HN]; rintro e w' ⟨rfl, rfl⟩))
  go_region_held3 (fun w1 => Below w'.heap.size w' w1 ∧ (convert 23 9 (.slice a l.length cap)).run Tryd.prog w1 = .ok (.string (strOf l)) w1)
    ((refine kept (unhide HB) ?_; go_split_ands; first | exact (Below.refl _ _).drew | assumption | (refine below_alloc ?_ _; assumption) | (refine below_then (by assumption) ?_; assumption)))
    (first
      | (go_at_call 11; refine (own_any _ l _ hlen ?_).mono ?_; (exact (unhide HB).below (by go_split_ands; assumption)); rintro e w1 ⟨v', rfl, hown, hbel⟩; obtain ⟨a1, c1, rfl⟩ := hown.byt.form)
      | (go_at_call 10; refine (sum_one _ _ (.slice a1 l.length c1) l _ ?_ ?_ (unhide HL) hlen ?_).mono ?_; (exact (unhide HT).below (by go_split_ands; assumption)); (exact hown.byt.below (below_alloc (Below.refl _ _) _)); (exact new_cell _ _ _); rintro e w1 ⟨rfl, rfl⟩)
      | (go_at_call 12; refine (text_any _ _ ?_ ?_).mono ?_; (exact (unhide HT).below (by go_split_ands; assumption)); (rw [unhide HZ]; unfold maxLen; omega); rw [unhide HN]; rintro e w1 ⟨rfl, rfl⟩)
      | (go_at_call 13; refine (more_any _ _ l _ ?_ hc (unhide HL) (by omega) ?_).mono ?_; (exact (unhide HT).below (by go_split_ands; assumption)); (exact hown.byt); rintro e w1 ⟨rfl, rfl⟩)
      | (go_at_call 14; refine (refMore_any _ _ _ hc ?_).mono ?_; (rw [unhide HZ]; unfold maxLen; omega); rw [unhide HN]; rintro e w1 ⟨rfl, rfl⟩))
  all_goals go_wp2
  all_goals go_ret
  all_goals (go_split_ands; refine ⟨rfl, ?_⟩; first | assumption | (refine below_then (by assumption) ?_; assumption))
end Go.Proofs.YtknlgclbdoencaaDoor
