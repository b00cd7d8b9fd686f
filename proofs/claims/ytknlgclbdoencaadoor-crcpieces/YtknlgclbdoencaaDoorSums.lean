/- What the calls of package crc and of the document's own answer do with slices and texts: awake, Sum, More. -/
import Derived.Test.YtknlgclbdoencaaDoorStep
namespace Go.Proofs.YtknlgclbdoencaaDoor
open Go.ChangeShapes Go.WideShapes Go.ChangeAt Go.RowKit

theorem hide {p : Prop} (h : p) : Hid p := h
theorem unhide {p : Prop} (h : Hid p) : p := h

set_option maxHeartbeats 400000 in
theorem refSum_any (s : ByteArray) (w : World) (hs : s.size ≤ maxLen) :
    Calls Tryd.prog 9 #[.string s] w fun e w' => e = .returned (.int .u32 (Crc.sum (bn s) : Nat)) ∧ w' = w := by
  go_enter Tryd.func9, Tryd.ntmps9
  go_wp2_with (go_at_call 14; refine (refMore_any _ _ _ (by omega) hs).mono ?_; rintro e w' ⟨rfl, rfl⟩)
  go_ret
  exact ⟨rfl, rfl⟩

def known : ByteArray := ⟨#[49, 50, 51, 52, 53, 54, 55, 56, 57]⟩
theorem known_sum : Crc.sum (bn known) = 3808858755 := Crc.sum_known

set_option maxHeartbeats 400000 in
theorem awake_any (w : World) (hT : Tab w) :
    Calls Tryd.prog 8 #[] w fun e w' => e = .returned (.bool true) ∧ w' = w := by
  have hk := known_sum
  have ht := text_any known w hT (by decide)
  rw [hk] at ht
  have Ht := hide ht
  clear ht hk hT
  go_enter Tryd.func8, Tryd.ntmps8
  go_wp2_with (go_at_call 12; refine (unhide Ht).mono ?_; rintro e w' ⟨rfl, rfl⟩)
  go_ret
  exact ⟨rfl, rfl⟩

/-- a slice value that holds these bytes -/
def Byt (w : World) (v : Value) (l : List Nat) : Prop :=
  (l = [] ∧ ∃ a cap, v = .slice a 0 cap) ∨ (∃ g o cap, v = .slice (some ⟨g, o, none⟩) l.length cap ∧ ∀ i, i < l.length → w.cell? ⟨g, o + i, none⟩ = some (.int .u8 (l.getD i 0 : Nat)))

theorem take_snoc_nat (l : List Nat) (k : Nat) (h : k < l.length) : l.take (k + 1) = l.take k ++ [l.getD k 0] := by
  rw [List.take_succ_eq_append_getElem h, List.getD_eq_getElem?_getD, List.getElem?_eq_getElem h]
  rfl
theorem take_lt {l : List Nat} (hl : ∀ b ∈ l, b < 256) (k : Nat) : ∀ b ∈ l.take k, b < 256 := fun b hb => hl b (List.mem_of_mem_take hb)
theorem getD_lt {l : List Nat} (hl : ∀ b ∈ l, b < 256) (k : Nat) : l.getD k 0 < 256 := by
  rw [List.getD_eq_getElem?_getD]
  by_cases h : k < l.length
  · rw [List.getElem?_eq_getElem h]; exact hl _ (List.getElem_mem h)
  · rw [List.getElem?_eq_none (by omega)]; decide

set_option maxHeartbeats 400000 in
theorem more_none (C : Nat) (a : Option Addr) (cap : Nat) (w : World) (hC : C < 4294967296) :
    Calls Tryd.prog 13 #[.int .u32 C, .slice a 0 cap] w fun e w' => e = .returned (.int .u32 C) ∧ w' = w := by
  have hn := not_u32 C hC
  have hm := not_u32 _ (Crc.not_lt hC)
  rw [Crc.not_not] at hm
  go_enter Tryd.func13, Tryd.ntmps13
  go_wp2
  go_loop [5, 12] (fun t i => i = .int .i64 0 ∧ t = .int .u32 (C ^^^ 4294967295 : Nat)) (fun _ _ => 0)
  case atStart => exact ⟨rfl, rfl⟩
  case round =>
    obtain ⟨rfl, rfl⟩ := hrel
    go_wp2
    go_ret
    exact ⟨rfl, rfl⟩

set_option maxHeartbeats 400000 in
theorem more_some (C : Nat) (g o cap : Nat) (l : List Nat) (w : World) (hT : Tab w) (hC : C < 4294967296) (hl : ∀ b ∈ l, b < 256) (hlen : l.length ≤ 9223372036854775807)
    (hc : ∀ i, i < l.length → w.cell? ⟨g, o + i, none⟩ = some (.int .u8 (l.getD i 0 : Nat))) :
    Calls Tryd.prog 13 #[.int .u32 C, .slice (some ⟨g, o, none⟩) l.length cap] w fun e w' => e = .returned (.int .u32 (Crc.more C l : Nat)) ∧ w' = w := by
  have HT : Hid (Tab w) := hT
  clear hT
  have HC := hide hc
  clear hc
  have hn := not_u32 C hC
  have hnl := Crc.not_lt hC
  go_enter Tryd.func13, Tryd.ntmps13
  go_wp2
  go_loop [5, 12] (fun t i => ∃ k : Nat, k ≤ l.length ∧ i = .int .i64 k ∧ t = .int .u32 (Crc.run (C ^^^ 4294967295) (l.take k) : Nat)) (fun _ i => l.length - (intOf i).toNat)
  case atStart => exact ⟨0, Nat.zero_le _, rfl, rfl⟩
  case round =>
    obtain ⟨k, hk, rfl, rfl⟩ := hrel
    clear hn
    have hr : Crc.run (C ^^^ 4294967295) (l.take k) < 4294967296 := Crc.run_lt _ hnl (take_lt hl k)
    by_cases hlt : k < l.length
    · have hb := getD_lt hl k
      have hcell := unhide HC k hlt
      have HS : Hid (Crc.run (C ^^^ 4294967295) (l.take (k + 1)) = Crc.bstep (Crc.run (C ^^^ 4294967295) (l.take k)) (l.getD k 0)) := by
        show _ = _
        rw [take_snoc_nat l k hlt, Crc.run_snoc]
      generalize l.getD k 0 = b at *
      generalize Crc.run (C ^^^ 4294967295) (l.take k) = r at *
      go_wp2_with (go_at_call 15; refine (step_any _ _ _ HT.out (by omega) (by omega)).mono ?_; rintro e w' ⟨rfl, rfl⟩)
      go_round
      case rel => exact ⟨k + 1, by omega, by go_num, by rw [HS.out]⟩
      case measure => simp [intOf]; omega
    · go_wp2
      go_ret
      refine ⟨ret_int ?_, rfl⟩
      have hall : l.take k = l := List.take_of_length_le (by omega)
      rw [hall] at hr ⊢
      exact not_u32 _ hr

theorem more_any (c : Int) (v : Value) (l : List Nat) (w : World) (hT : Tab w) (hc : 0 ≤ c ∧ c < 4294967296) (hl : ∀ b ∈ l, b < 256) (hlen : l.length ≤ 9223372036854775807) (hb : Byt w v l) :
    Calls Tryd.prog 13 #[.int .u32 c, v] w fun e w' => e = .returned (.int .u32 (Crc.more c.toNat l : Nat)) ∧ w' = w := by
  obtain ⟨C, rfl⟩ := Int.eq_ofNat_of_zero_le hc.1
  rw [Int.toNat_natCast]
  rcases hb with ⟨rfl, a, cap, rfl⟩ | ⟨g, o, cap, rfl, hcell⟩
  · rw [Crc.more_nil]
    exact more_none C a cap w (by omega)
  · exact more_some C g o cap l w hT (by omega) hl hlen hcell
end Go.Proofs.YtknlgclbdoencaaDoor
