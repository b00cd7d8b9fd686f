/- A disk behind calls: the law's 'made'. -/
import Derived.Test.YtmkmebogfcbphaaLong
namespace Go.Proofs.Ytmkmebogfcbphaa
open Go.ChangeShapes Go.WideShapes Go.ChangeAt Go.RowKit

def stepM (m : Dk) (c : Cl) : Dk := if c.k = 0 then writeM m c.n (dataS c.a c.b) else if c.k = 1 then flushM m else if c.k = 3 then powerM m c.n else m
def playM (f : Nat → Cl) : Nat → Dk
  | 0 => newM 8
  | k + 1 => stepM (playM f k) (f k)

set_option maxHeartbeats 8000000 in
set_option maxRecDepth 20000 in
theorem made_any (f : Nat → Cl) (a : Option Addr) (len cap : Nat) (W : World) (h : IsCalls W a len f) (hlen : len ≤ 200) :
    Calls Try.prog 14 #[.slice a len cap] W fun e w' => ∃ d fp, e = .returned (.pointer (some ⟨d, 0, none⟩)) ∧ Stp W w' d (playM f len) len fp := by
  have HI := hide h
  clear h
  go_enter Try.func14, Try.ntmps14
  go_wp2_with (go_at_call 10; refine (new_any 8 _ (by decide) (by decide)).mono ?_; rintro e w1 ⟨d, fp, rfl, hI, hb1, hfp⟩; have hS1 : Stp W w1 d (playM f 0) 0 fp := ⟨hI, hb1, hfp⟩; have HS1 := hide hS1; clear hI hb1 hfp hS1)
  go_loopw [5] (fun j wr => ∃ (k : Nat) (fp : List Nat), k ≤ len ∧ j = .int .i64 (k : Int) ∧ Stp W wr d (playM f k) k fp) (fun j _ => len - (intOf j).toNat)
  case atStart => exact ⟨0, _, Nat.zero_le _, rfl, unhide HS1⟩
  case round =>
    clear HS1
    obtain ⟨k, fp, hk, rfl, hS⟩ := hrel
    have HS := hide hS
    clear hS
    by_cases hlt : k < len
    · have hlt' : (k : Int) < (len : Int) := by omega
      have hk6 : k < 201 := by omega
      obtain ⟨_, h0 | ⟨b, off, rfl, hc⟩⟩ := unhide HI
      · omega
      have hcW := hc k hlt
      have hck := hcW.grow (unhide HS).bel (Nat.le_refl _)
      rcases hfk : f k with ⟨ck, cn, ccut, ca, cb, cv, cfs⟩
      rw [hfk] at hck
      have HEQ := hide hfk
      clear hfk
      have hbl : b < W.heap.size := World.block_lt_of_cell? _ _ hcW.c0
      have c0 := hck.c0
      have c1 := hck.c1
      have c3 := hck.c3
      have c4 := hck.c4
      have HCN := hide hck.bn
      have HBL := hide hbl
      clear hc hck hbl hcW
      simp only at c0 c1 c3 c4 HCN
      by_cases hk0 : ck = 0
      · subst hk0
        go_wp2_with fail
        have HSA : Hid (Stp W wr.drew d (playM f k) k fp) := (unhide HS).grow (Below.refl _ _).drew
        have q1' : wr.drew.cell? ⟨b, off + k * 6 + 1, none⟩ = some (.int .i64 cn) := c1
        have q3' : wr.drew.cell? ⟨b, off + k * 6 + 3, none⟩ = some (.int .u8 (ca : Int)) := c3
        have q4' : wr.drew.cell? ⟨b, off + k * 6 + 4, none⟩ = some (.int .u8 (cb : Int)) := c4
        have HPN : Hid (b ∉ fp) := fun hx => by have := (unhide HS).new _ hx; have := unhide HBL; omega
        have HPL : Hid (b < wr.drew.heap.size) := World.block_lt_of_cell? _ _ q1'
        clear c0 c1 c3 c4
        go_region_held3 (fun w' => w'.cell? ⟨b, off + k * 6 + 1, none⟩ = some (.int .i64 cn) ∧ w'.cell? ⟨b, off + k * 6 + 3, none⟩ = some (.int .u8 (ca : Int)) ∧ w'.cell? ⟨b, off + k * 6 + 4, none⟩ = some (.int .u8 (cb : Int)))
          (first | assumption | exact ⟨q1', q3', q4'⟩ | exact ⟨y1, y3, y4⟩ | exact ⟨z1, z3, z4⟩)
          (first
            | (go_at_call 17; go_split_ands; refine (data_any ca cb _).mono ?_; rintro e w3 ⟨rfl, hb3⟩; have y1 := (hb3.cell (p := ⟨b, off + k * 6 + 1, none⟩) (unhide HPL)).trans q1'; have y3 := (hb3.cell (p := ⟨b, off + k * 6 + 3, none⟩) (unhide HPL)).trans q3'; have y4 := (hb3.cell (p := ⟨b, off + k * 6 + 4, none⟩) (unhide HPL)).trans q4'; have HS3 := hide ((unhide HSA).grow hb3); clear hb3)
            | (go_at_call 16; go_split_ands; refine (write_any cn (dataS ca cb) fp _ (unhide HS3).disk (by omega)).mono ?_; rintro e w4 ⟨rfl, ht4⟩; have hmv := ht4.moves; have z1 := hmv.cell y1 (unhide HPN); have z3 := hmv.cell y3 (unhide HPN); have z4 := hmv.cell y4 (unhide HPN); obtain ⟨fp4, hS4⟩ := (unhide HS3).turn ht4; have HS4 := hide hS4; clear ht4 hS4 hmv))
        go_wp2
        go_roundw
        case rel =>
          refine ⟨k + 1, fp4, by omega, by go_num, ?_⟩
          show Stp W _ d (stepM (playM f k) (f k)) (k + 1) fp4
          rw [unhide HEQ]
          exact unhide HS4
        case measure => simp [intOf]; omega
      · by_cases hk1 : ck = 1
        · subst hk1
          go_wp2_with (go_at_call 22; refine (flush_any _ _ (unhide HS).disk (by omega)).mono ?_; rintro e w4 ⟨rfl, ht4⟩; obtain ⟨fp4, hS4⟩ := (unhide HS).turn ht4; have HS4 := hide hS4; clear ht4 hS4)
          go_roundw
          case rel =>
            refine ⟨k + 1, fp4, by omega, by go_num, ?_⟩
            show Stp W _ d (stepM (playM f k) (f k)) (k + 1) fp4
            rw [unhide HEQ]
            exact (unhide HS4).mono (Nat.le_succ k)
          case measure => simp [intOf]; omega
        · by_cases hk3 : ck = 3
          · subst hk3
            go_wp2_with (go_at_call 21; refine (power_any cn (unhide HCN).2 _ _ (unhide HS).disk).mono ?_; rintro e w4 ⟨rfl, ht4⟩; obtain ⟨fp4, hS4⟩ := (unhide HS).turn ht4; have HS4 := hide hS4; clear ht4 hS4)
            go_roundw
            case rel =>
              refine ⟨k + 1, fp4, by omega, by go_num, ?_⟩
              show Stp W _ d (stepM (playM f k) (f k)) (k + 1) fp4
              rw [unhide HEQ]
              exact (unhide HS4).mono (Nat.le_succ k)
            case measure => simp [intOf]; omega
          · go_wp2
            go_roundw
            case rel =>
              refine ⟨k + 1, fp, by omega, by go_num, ?_⟩
              show Stp W _ d (stepM (playM f k) (f k)) (k + 1) fp
              rw [unhide HEQ]
              unfold stepM
              rw [if_neg hk0, if_neg hk1, if_neg hk3]
              exact (unhide HS).mono (Nat.le_succ k)
            case measure => simp [intOf]; omega
    · have hlt' : ¬ (k : Int) < (len : Int) := by omega
      have hkl : k = len := by omega
      subst hkl
      go_wp2
      go_ret
      exact ⟨_, rfl, _, unhide HS⟩
end Go.Proofs.Ytmkmebogfcbphaa
