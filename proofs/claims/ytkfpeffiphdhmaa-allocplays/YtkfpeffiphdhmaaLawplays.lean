/- The law AllocPlays. -/
import Derived.Test.YtkfpeffiphdhmaaPair
namespace Go.Proofs.Ytkfpeffiphdhmaa
open Go.ChangeShapes Go.WideShapes Go.ChangeAt Go.RowKit

set_option maxHeartbeats 8000000 in
set_option maxRecDepth 20000 in
theorem plays_walk (f : Nat → Cl) (from_ to_ : Int) (hfi : I64 from_) (hti : I64 to_) (a : Option Addr) (len cap : Nat) (W : World) (h : IsCalls W a len f) :
    Calls Try.prog 3 #[.int .i64 from_, .int .i64 to_, .slice a len cap] W fun e w' => e = .returned (.bool true) ∧ Below W.heap.size W w' := by
  have HI := hide h
  clear h
  go_enter Try.func3, Try.ntmps3
  go_wp2_with fail
  refine (awake_any W).mono ?_
  rintro e w1 ⟨rfl, hb1⟩
  have HB1 := hide hb1
  clear hb1
  by_cases g3 : 200 < (len : Int)
  · go_wp2
    go_ret
    exact ⟨rfl, unhide HB1⟩
  have hlen : len ≤ 200 := by omega
  by_cases hbad : from_ < 0 ∨ to_ < from_ ∨ 4096 < to_
  · have HX := hide hbad
    clear hbad hfi hti
    go_wp2_with (first
      | (go_at_call 9; refine (new_bad from_ to_ _ (unhide HX)).mono ?_; rintro e w2 ⟨rfl, rfl⟩)
      | (go_at_call 10; refine (rnew_bad from_ to_ _ (unhide HX)).mono ?_; rintro e w2 ⟨rfl, rfl⟩))
    go_ret
    exact ⟨rfl, unhide HB1⟩
  obtain ⟨fr, rfl⟩ : ∃ N : Nat, from_ = (N : Int) := ⟨from_.toNat, by omega⟩
  obtain ⟨to, rfl⟩ : ∃ N : Nat, to_ = (N : Int) := ⟨to_.toNat, by omega⟩
  have HF : Hid (fr ≤ to ∧ to ≤ 4096) := by show fr ≤ to ∧ to ≤ 4096; omega
  clear hbad hfi hti
  go_wp2_with fail
  refine (new_ok fr to w1 (unhide HF).1 (unhide HF).2).mono ?_
  rintro e w2 ⟨d, b, rfl, hA, hb2, hnd, hnb⟩
  have HA := hide (And.intro hA (And.intro hb2 (And.intro hnd hnb)))
  clear hA hb2 hnd hnb
  go_wp2_with fail
  refine (rnew_ok fr to w2 (unhide HF).1 (unhide HF).2).mono ?_
  rintro e w3 ⟨r, g, rfl, hR, hb3, hnr, hng⟩
  have HP : Hid (Pair W w3 d b r g fr (newM fr to) (newM fr to)) := by
    obtain ⟨hA, hb2, hnd, hnb⟩ := unhide HA
    have hB1 := unhide HB1
    have h1 := hA.dlt
    have h2 := hA.map.lt
    have h3 := hB1.size
    have h4 := hb2.size
    refine ⟨⟨hA.grow hb3, (hB1.trans (hb2.mono hB1.size)).trans (hb3.mono (by omega)), by omega⟩, hR, by omega, by omega, by omega, by omega⟩
  clear hR hb3 hnr hng HA HB1
  generalize newM fr to = l0 at *
  go_wp2_with fail
  go_loopw [11] (fun v wr => ∃ (k : Nat) (l : List St), k ≤ len ∧ v = .int .i64 (k : Int) ∧ Pair W wr d b r g fr l l) (fun v _ => len - (intOf v).toNat)
  case atStart => exact ⟨0, l0, Nat.zero_le _, rfl, unhide HP⟩
  case round =>
    clear HP
    obtain ⟨k, l, hk, rfl, hP⟩ := hrel
    have HP := hide hP
    clear hP
    by_cases hlt : k < len
    · have hlt' : (k : Int) < (len : Int) := by omega
      obtain ⟨_, h0 | ⟨bk, off, rfl, hc⟩⟩ := unhide HI
      · omega
      have hck := (hc k hlt).grow (unhide HP).s.bel (Nat.le_refl _)
      have c0 := hck.c0
      have c1 := hck.c1
      have c2 := hck.c2
      have HBD := hide (And.intro hck.bn hck.bg)
      have HPA := hide ((unhide HP).grow ((Below.refl _ wr).alloc (Nat.le_refl _) (.cells #[.int .i64 (f k).k, .int .i64 (f k).n, .int .i64 (f k).g] 32)))
      have HNB := hide ((unhide HP).notb (Nat.le_refl _))
      clear hc hck HP
      generalize (f k).k = ck at *
      generalize (f k).n = cn at *
      generalize (f k).g = cg at *
      by_cases k0 : ck = 0
      · subst k0
        go_wp2_with fail
        have q1 : (wr.alloc (.cells #[.int .i64 0, .int .i64 cn, .int .i64 cg] 32)).cell? ⟨wr.heap.size, 1, none⟩ = some (.int .i64 cn) := by simp
        have q2 : (wr.alloc (.cells #[.int .i64 0, .int .i64 cn, .int .i64 cg] 32)).cell? ⟨wr.heap.size, 2, none⟩ = some (.int .i64 cg) := by simp
        have HPL : Hid (wr.heap.size < (wr.alloc (.cells #[.int .i64 0, .int .i64 cn, .int .i64 cg] 32)).heap.size) := by show wr.heap.size < (wr.alloc (.cells #[.int .i64 0, .int .i64 cn, .int .i64 cg] 32)).heap.size; simp
        obtain ⟨p, hp⟩ : ∃ y, y = wr.heap.size := ⟨_, rfl⟩
        rw [← hp] at q1 q2 HNB HPL ⊢
        clear hp c0 c1 c2
        generalize wr.alloc (.cells #[.int .i64 0, .int .i64 cn, .int .i64 cg] 32) = wa at *
        refine (take_any cg (unhide HBD).2 _ (unhide HPA).s.al).mono ?_
        rintro e w7 ⟨rfl, hA7, hm7⟩
        have z1 := hm7.cell q1 (unhide HNB).1
        have z2 := hm7.cell q2 (unhide HNB).1
        have HP7 := hide ((unhide HPA).first hA7 hm7)
        clear hA7 hm7 q1 q2
        go_wp2_with fail
        refine (rtake_any cg (unhide HBD).2 _ (unhide HP7).ref).mono ?_
        rintro e w8 ⟨rfl, hA8, hm8⟩
        have x1 := hm8.cell z1 (unhide HNB).2
        have HP8 := hide ((unhide HP7).second hA8 hm8)
        clear hA8 hm8 z1 z2 HP7 HPA
        have HL8 : Hid (p < w8.heap.size) := World.block_lt_of_cell? _ _ x1
        generalize takeN fr l = E1 at *
        generalize takeE l = E2 at *
        generalize takeM l cg = ls at *
        go_wp2_with fail
        have HP0 : Hid (Pair W w8.drew d b r g fr ls ls) := (unhide HP8).grow (Below.refl _ _).drew
        have HPL' : Hid (p < w8.drew.heap.size) := unhide HL8
        have q1' : w8.drew.cell? ⟨p, 1, none⟩ = some (.int .i64 cn) := x1
        clear x1 HP8 HL8
        go_region_held3 (fun w' => w'.cell? ⟨p, 1, none⟩ = some (.int .i64 cn))
          (first | assumption | exact q1' | exact y2 | exact y3 | exact y5)
          (first
            | (go_at_call 21; refine (count_any cn (unhide HBD).1 _ (unhide HP0).s.al).mono ?_; rintro e w1 ⟨rfl, rfl⟩)
            | (go_at_call 22; refine (rcount_any cn (unhide HBD).1 _ (unhide HP0).ref).mono ?_; rintro e w2 ⟨rfl, hb2⟩; have y2 := (hb2.cell (p := ⟨p, 1, none⟩) (unhide HPL')).trans q1'; have HL2 : Hid (p < w2.heap.size) := World.block_lt_of_cell? _ _ y2; have HP2 := hide ((unhide HP0).grow hb2); clear hb2)
            | (go_at_call 23; refine (room_any _ (unhide HP2).s.al).mono ?_; rintro e w3 ⟨rfl, hb3⟩; have y3 := (hb3.cell (p := ⟨p, 1, none⟩) (unhide HL2)).trans y2; have HL3 : Hid (p < w3.heap.size) := World.block_lt_of_cell? _ _ y3; have HP3 := hide ((unhide HP2).grow hb3); clear hb3)
            | (go_at_call 24; refine (rroom_any _ (unhide HP3).ref).mono ?_; rintro e w4 ⟨rfl, rfl⟩)
            | (go_at_call 25; refine (waiting_any _ (unhide HP3).s.al).mono ?_; rintro e w5 ⟨rfl, hb5⟩; have y5 := (hb5.cell (p := ⟨p, 1, none⟩) (unhide HL3)).trans y3; have HP5 := hide ((unhide HP3).grow hb5); clear hb5)
            | (go_at_call 26; refine (rwaiting_any _ (unhide HP5).ref).mono ?_; rintro e w6 ⟨rfl, rfl⟩))
        go_wp2
        go_roundw
        case rel => exact ⟨k + 1, _, by omega, by go_num, unhide HP5⟩
        case measure => simp [intOf]; omega
      by_cases k1 : ck = 1
      · subst k1
        go_wp2_with fail
        have q1 : (wr.alloc (.cells #[.int .i64 1, .int .i64 cn, .int .i64 cg] 32)).cell? ⟨wr.heap.size, 1, none⟩ = some (.int .i64 cn) := by simp
        have q2 : (wr.alloc (.cells #[.int .i64 1, .int .i64 cn, .int .i64 cg] 32)).cell? ⟨wr.heap.size, 2, none⟩ = some (.int .i64 cg) := by simp
        have HPL : Hid (wr.heap.size < (wr.alloc (.cells #[.int .i64 1, .int .i64 cn, .int .i64 cg] 32)).heap.size) := by show wr.heap.size < (wr.alloc (.cells #[.int .i64 1, .int .i64 cn, .int .i64 cg] 32)).heap.size; simp
        obtain ⟨p, hp⟩ : ∃ y, y = wr.heap.size := ⟨_, rfl⟩
        rw [← hp] at q1 q2 HNB HPL ⊢
        clear hp c0 c1 c2
        generalize wr.alloc (.cells #[.int .i64 1, .int .i64 cn, .int .i64 cg] 32) = wa at *
        have HPB : Hid (Pair W wa.drew d b r g fr l l) := (unhide HPA).grow (Below.refl _ _).drew
        have q1b : wa.drew.cell? ⟨p, 1, none⟩ = some (.int .i64 cn) := q1
        have q2b : wa.drew.cell? ⟨p, 2, none⟩ = some (.int .i64 cg) := q2
        clear q1 q2 HPA HPL
        go_region_held3 (fun w' => w'.cell? ⟨p, 1, none⟩ = some (.int .i64 cn) ∧ w'.cell? ⟨p, 2, none⟩ = some (.int .i64 cg))
          (first | assumption | exact ⟨q1b, q2b⟩ | exact ⟨z1, z2⟩ | exact ⟨x1, x2⟩)
          (first
            | (go_at_call 13; refine (mark_any cn cg _ (unhide HPB).s.al (unhide HBD).1 (unhide HBD).2).mono ?_; rintro e w7 ⟨rfl, hA7, hm7⟩; have z1 := hm7.cell q1b (unhide HNB).1; have z2 := hm7.cell q2b (unhide HNB).1; have HP7 := hide ((unhide HPB).first hA7 hm7); clear hA7 hm7)
            | (go_at_call 14; refine (rmark_any cn cg _ (unhide HP7).ref (unhide HBD).1 (unhide HBD).2).mono ?_; rintro e w8 ⟨rfl, hA8, hm8⟩; have x1 := hm8.cell z1 (unhide HNB).2; have x2 := hm8.cell z2 (unhide HNB).2; have HP8 := hide ((unhide HP7).second hA8 hm8); clear hA8 hm8))
        clear HP7 HPB z1 z2 q1b q2b x2
        have HL8 : Hid (p < w8.heap.size) := World.block_lt_of_cell? _ _ x1
        generalize markE fr l cn = E at *
        generalize markM fr l cn cg = ls at *
        go_wp2_with fail
        have HP0 : Hid (Pair W w8.drew d b r g fr ls ls) := (unhide HP8).grow (Below.refl _ _).drew
        have HPL' : Hid (p < w8.drew.heap.size) := unhide HL8
        have q1' : w8.drew.cell? ⟨p, 1, none⟩ = some (.int .i64 cn) := x1
        clear x1 HP8 HL8
        go_region_held3 (fun w' => w'.cell? ⟨p, 1, none⟩ = some (.int .i64 cn))
          (first | assumption | exact q1' | exact y2 | exact y3 | exact y5)
          (first
            | (go_at_call 21; refine (count_any cn (unhide HBD).1 _ (unhide HP0).s.al).mono ?_; rintro e w1 ⟨rfl, rfl⟩)
            | (go_at_call 22; refine (rcount_any cn (unhide HBD).1 _ (unhide HP0).ref).mono ?_; rintro e w2 ⟨rfl, hb2⟩; have y2 := (hb2.cell (p := ⟨p, 1, none⟩) (unhide HPL')).trans q1'; have HL2 : Hid (p < w2.heap.size) := World.block_lt_of_cell? _ _ y2; have HP2 := hide ((unhide HP0).grow hb2); clear hb2)
            | (go_at_call 23; refine (room_any _ (unhide HP2).s.al).mono ?_; rintro e w3 ⟨rfl, hb3⟩; have y3 := (hb3.cell (p := ⟨p, 1, none⟩) (unhide HL2)).trans y2; have HL3 : Hid (p < w3.heap.size) := World.block_lt_of_cell? _ _ y3; have HP3 := hide ((unhide HP2).grow hb3); clear hb3)
            | (go_at_call 24; refine (rroom_any _ (unhide HP3).ref).mono ?_; rintro e w4 ⟨rfl, rfl⟩)
            | (go_at_call 25; refine (waiting_any _ (unhide HP3).s.al).mono ?_; rintro e w5 ⟨rfl, hb5⟩; have y5 := (hb5.cell (p := ⟨p, 1, none⟩) (unhide HL3)).trans y3; have HP5 := hide ((unhide HP3).grow hb5); clear hb5)
            | (go_at_call 26; refine (rwaiting_any _ (unhide HP5).ref).mono ?_; rintro e w6 ⟨rfl, rfl⟩))
        go_wp2
        go_roundw
        case rel => exact ⟨k + 1, _, by omega, by go_num, unhide HP5⟩
        case measure => simp [intOf]; omega
      by_cases k2 : ck = 2
      · subst k2
        go_wp2_with fail
        have q1 : (wr.alloc (.cells #[.int .i64 2, .int .i64 cn, .int .i64 cg] 32)).cell? ⟨wr.heap.size, 1, none⟩ = some (.int .i64 cn) := by simp
        have q2 : (wr.alloc (.cells #[.int .i64 2, .int .i64 cn, .int .i64 cg] 32)).cell? ⟨wr.heap.size, 2, none⟩ = some (.int .i64 cg) := by simp
        have HPL : Hid (wr.heap.size < (wr.alloc (.cells #[.int .i64 2, .int .i64 cn, .int .i64 cg] 32)).heap.size) := by show wr.heap.size < (wr.alloc (.cells #[.int .i64 2, .int .i64 cn, .int .i64 cg] 32)).heap.size; simp
        obtain ⟨p, hp⟩ : ∃ y, y = wr.heap.size := ⟨_, rfl⟩
        rw [← hp] at q1 q2 HNB HPL ⊢
        clear hp c0 c1 c2
        generalize wr.alloc (.cells #[.int .i64 2, .int .i64 cn, .int .i64 cg] 32) = wa at *
        have HPB : Hid (Pair W wa.drew d b r g fr l l) := (unhide HPA).grow (Below.refl _ _).drew
        have q1b : wa.drew.cell? ⟨p, 1, none⟩ = some (.int .i64 cn) := q1
        have q2b : wa.drew.cell? ⟨p, 2, none⟩ = some (.int .i64 cg) := q2
        clear q1 q2 HPA HPL
        go_region_held3 (fun w' => w'.cell? ⟨p, 1, none⟩ = some (.int .i64 cn) ∧ w'.cell? ⟨p, 2, none⟩ = some (.int .i64 cg))
          (first | assumption | exact ⟨q1b, q2b⟩ | exact ⟨z1, z2⟩ | exact ⟨x1, x2⟩)
          (first
            | (go_at_call 15; refine (hold_any cn _ (unhide HPB).s.al (unhide HBD).1).mono ?_; rintro e w7 ⟨rfl, hA7, hm7⟩; have z1 := hm7.cell q1b (unhide HNB).1; have z2 := hm7.cell q2b (unhide HNB).1; have HP7 := hide ((unhide HPB).first hA7 hm7); clear hA7 hm7)
            | (go_at_call 16; refine (rhold_any cn _ (unhide HP7).ref (unhide HBD).1).mono ?_; rintro e w8 ⟨rfl, hA8, hm8⟩; have x1 := hm8.cell z1 (unhide HNB).2; have x2 := hm8.cell z2 (unhide HNB).2; have HP8 := hide ((unhide HP7).second hA8 hm8); clear hA8 hm8))
        clear HP7 HPB z1 z2 q1b q2b x2
        have HL8 : Hid (p < w8.heap.size) := World.block_lt_of_cell? _ _ x1
        generalize holdE fr l cn = E at *
        generalize holdM fr l cn = ls at *
        go_wp2_with fail
        have HP0 : Hid (Pair W w8.drew d b r g fr ls ls) := (unhide HP8).grow (Below.refl _ _).drew
        have HPL' : Hid (p < w8.drew.heap.size) := unhide HL8
        have q1' : w8.drew.cell? ⟨p, 1, none⟩ = some (.int .i64 cn) := x1
        clear x1 HP8 HL8
        go_region_held3 (fun w' => w'.cell? ⟨p, 1, none⟩ = some (.int .i64 cn))
          (first | assumption | exact q1' | exact y2 | exact y3 | exact y5)
          (first
            | (go_at_call 21; refine (count_any cn (unhide HBD).1 _ (unhide HP0).s.al).mono ?_; rintro e w1 ⟨rfl, rfl⟩)
            | (go_at_call 22; refine (rcount_any cn (unhide HBD).1 _ (unhide HP0).ref).mono ?_; rintro e w2 ⟨rfl, hb2⟩; have y2 := (hb2.cell (p := ⟨p, 1, none⟩) (unhide HPL')).trans q1'; have HL2 : Hid (p < w2.heap.size) := World.block_lt_of_cell? _ _ y2; have HP2 := hide ((unhide HP0).grow hb2); clear hb2)
            | (go_at_call 23; refine (room_any _ (unhide HP2).s.al).mono ?_; rintro e w3 ⟨rfl, hb3⟩; have y3 := (hb3.cell (p := ⟨p, 1, none⟩) (unhide HL2)).trans y2; have HL3 : Hid (p < w3.heap.size) := World.block_lt_of_cell? _ _ y3; have HP3 := hide ((unhide HP2).grow hb3); clear hb3)
            | (go_at_call 24; refine (rroom_any _ (unhide HP3).ref).mono ?_; rintro e w4 ⟨rfl, rfl⟩)
            | (go_at_call 25; refine (waiting_any _ (unhide HP3).s.al).mono ?_; rintro e w5 ⟨rfl, hb5⟩; have y5 := (hb5.cell (p := ⟨p, 1, none⟩) (unhide HL3)).trans y3; have HP5 := hide ((unhide HP3).grow hb5); clear hb5)
            | (go_at_call 26; refine (rwaiting_any _ (unhide HP5).ref).mono ?_; rintro e w6 ⟨rfl, rfl⟩))
        go_wp2
        go_roundw
        case rel => exact ⟨k + 1, _, by omega, by go_num, unhide HP5⟩
        case measure => simp [intOf]; omega
      by_cases k3 : ck = 3
      · subst k3
        go_wp2_with fail
        have q1 : (wr.alloc (.cells #[.int .i64 3, .int .i64 cn, .int .i64 cg] 32)).cell? ⟨wr.heap.size, 1, none⟩ = some (.int .i64 cn) := by simp
        have q2 : (wr.alloc (.cells #[.int .i64 3, .int .i64 cn, .int .i64 cg] 32)).cell? ⟨wr.heap.size, 2, none⟩ = some (.int .i64 cg) := by simp
        have HPL : Hid (wr.heap.size < (wr.alloc (.cells #[.int .i64 3, .int .i64 cn, .int .i64 cg] 32)).heap.size) := by show wr.heap.size < (wr.alloc (.cells #[.int .i64 3, .int .i64 cn, .int .i64 cg] 32)).heap.size; simp
        obtain ⟨p, hp⟩ : ∃ y, y = wr.heap.size := ⟨_, rfl⟩
        rw [← hp] at q1 q2 HNB HPL ⊢
        clear hp c0 c1 c2
        generalize wr.alloc (.cells #[.int .i64 3, .int .i64 cn, .int .i64 cg] 32) = wa at *
        have HPB : Hid (Pair W wa.drew d b r g fr l l) := (unhide HPA).grow (Below.refl _ _).drew
        have q1b : wa.drew.cell? ⟨p, 1, none⟩ = some (.int .i64 cn) := q1
        have q2b : wa.drew.cell? ⟨p, 2, none⟩ = some (.int .i64 cg) := q2
        clear q1 q2 HPA HPL
        go_region_held3 (fun w' => w'.cell? ⟨p, 1, none⟩ = some (.int .i64 cn) ∧ w'.cell? ⟨p, 2, none⟩ = some (.int .i64 cg))
          (first | assumption | exact ⟨q1b, q2b⟩ | exact ⟨z1, z2⟩ | exact ⟨x1, x2⟩)
          (first
            | (go_at_call 17; refine (drop_any cn cg _ (unhide HPB).s.al (unhide HBD).1 (unhide HBD).2).mono ?_; rintro e w7 ⟨rfl, hA7, hm7⟩; have z1 := hm7.cell q1b (unhide HNB).1; have z2 := hm7.cell q2b (unhide HNB).1; have HP7 := hide ((unhide HPB).first hA7 hm7); clear hA7 hm7)
            | (go_at_call 18; refine (rdrop_any cn cg _ (unhide HP7).ref (unhide HBD).1 (unhide HBD).2).mono ?_; rintro e w8 ⟨rfl, hA8, hm8⟩; have x1 := hm8.cell z1 (unhide HNB).2; have x2 := hm8.cell z2 (unhide HNB).2; have HP8 := hide ((unhide HP7).second hA8 hm8); clear hA8 hm8))
        clear HP7 HPB z1 z2 q1b q2b x2
        have HL8 : Hid (p < w8.heap.size) := World.block_lt_of_cell? _ _ x1
        generalize dropE fr l cn = E at *
        generalize dropM fr l cn cg = ls at *
        go_wp2_with fail
        have HP0 : Hid (Pair W w8.drew d b r g fr ls ls) := (unhide HP8).grow (Below.refl _ _).drew
        have HPL' : Hid (p < w8.drew.heap.size) := unhide HL8
        have q1' : w8.drew.cell? ⟨p, 1, none⟩ = some (.int .i64 cn) := x1
        clear x1 HP8 HL8
        go_region_held3 (fun w' => w'.cell? ⟨p, 1, none⟩ = some (.int .i64 cn))
          (first | assumption | exact q1' | exact y2 | exact y3 | exact y5)
          (first
            | (go_at_call 21; refine (count_any cn (unhide HBD).1 _ (unhide HP0).s.al).mono ?_; rintro e w1 ⟨rfl, rfl⟩)
            | (go_at_call 22; refine (rcount_any cn (unhide HBD).1 _ (unhide HP0).ref).mono ?_; rintro e w2 ⟨rfl, hb2⟩; have y2 := (hb2.cell (p := ⟨p, 1, none⟩) (unhide HPL')).trans q1'; have HL2 : Hid (p < w2.heap.size) := World.block_lt_of_cell? _ _ y2; have HP2 := hide ((unhide HP0).grow hb2); clear hb2)
            | (go_at_call 23; refine (room_any _ (unhide HP2).s.al).mono ?_; rintro e w3 ⟨rfl, hb3⟩; have y3 := (hb3.cell (p := ⟨p, 1, none⟩) (unhide HL2)).trans y2; have HL3 : Hid (p < w3.heap.size) := World.block_lt_of_cell? _ _ y3; have HP3 := hide ((unhide HP2).grow hb3); clear hb3)
            | (go_at_call 24; refine (rroom_any _ (unhide HP3).ref).mono ?_; rintro e w4 ⟨rfl, rfl⟩)
            | (go_at_call 25; refine (waiting_any _ (unhide HP3).s.al).mono ?_; rintro e w5 ⟨rfl, hb5⟩; have y5 := (hb5.cell (p := ⟨p, 1, none⟩) (unhide HL3)).trans y3; have HP5 := hide ((unhide HP3).grow hb5); clear hb5)
            | (go_at_call 26; refine (rwaiting_any _ (unhide HP5).ref).mono ?_; rintro e w6 ⟨rfl, rfl⟩))
        go_wp2
        go_roundw
        case rel => exact ⟨k + 1, _, by omega, by go_num, unhide HP5⟩
        case measure => simp [intOf]; omega
      by_cases k4 : ck = 4
      · subst k4
        go_wp2_with fail
        have q1 : (wr.alloc (.cells #[.int .i64 4, .int .i64 cn, .int .i64 cg] 32)).cell? ⟨wr.heap.size, 1, none⟩ = some (.int .i64 cn) := by simp
        have q2 : (wr.alloc (.cells #[.int .i64 4, .int .i64 cn, .int .i64 cg] 32)).cell? ⟨wr.heap.size, 2, none⟩ = some (.int .i64 cg) := by simp
        have HPL : Hid (wr.heap.size < (wr.alloc (.cells #[.int .i64 4, .int .i64 cn, .int .i64 cg] 32)).heap.size) := by show wr.heap.size < (wr.alloc (.cells #[.int .i64 4, .int .i64 cn, .int .i64 cg] 32)).heap.size; simp
        obtain ⟨p, hp⟩ : ∃ y, y = wr.heap.size := ⟨_, rfl⟩
        rw [← hp] at q1 q2 HNB HPL ⊢
        clear hp c0 c1 c2
        generalize wr.alloc (.cells #[.int .i64 4, .int .i64 cn, .int .i64 cg] 32) = wa at *
        have HPB : Hid (Pair W wa.drew d b r g fr l l) := (unhide HPA).grow (Below.refl _ _).drew
        have q1b : wa.drew.cell? ⟨p, 1, none⟩ = some (.int .i64 cn) := q1
        have q2b : wa.drew.cell? ⟨p, 2, none⟩ = some (.int .i64 cg) := q2
        clear q1 q2 HPA HPL
        go_region_held3 (fun w' => w'.cell? ⟨p, 1, none⟩ = some (.int .i64 cn) ∧ w'.cell? ⟨p, 2, none⟩ = some (.int .i64 cg))
          (first | assumption | exact ⟨q1b, q2b⟩ | exact ⟨z1, z2⟩ | exact ⟨x1, x2⟩)
          (first
            | (go_at_call 19; refine (free_any cg _ (unhide HPB).s.al).mono ?_; rintro e w7 ⟨rfl, hA7, hm7⟩; have z1 := hm7.cell q1b (unhide HNB).1; have z2 := hm7.cell q2b (unhide HNB).1; have HP7 := hide ((unhide HPB).first hA7 hm7); clear hA7 hm7)
            | (go_at_call 20; refine (rfree_any cg _ (unhide HP7).ref).mono ?_; rintro e w8 ⟨rfl, hA8, hm8⟩; have x1 := hm8.cell z1 (unhide HNB).2; have x2 := hm8.cell z2 (unhide HNB).2; have HP8 := hide ((unhide HP7).second hA8 hm8); clear hA8 hm8))
        clear HP7 HPB z1 z2 q1b q2b x2
        have HL8 : Hid (p < w8.heap.size) := World.block_lt_of_cell? _ _ x1
        generalize (freeN l cg : Int) = E at *
        generalize freeM l cg = ls at *
        go_wp2_with fail
        have HP0 : Hid (Pair W w8.drew d b r g fr ls ls) := (unhide HP8).grow (Below.refl _ _).drew
        have HPL' : Hid (p < w8.drew.heap.size) := unhide HL8
        have q1' : w8.drew.cell? ⟨p, 1, none⟩ = some (.int .i64 cn) := x1
        clear x1 HP8 HL8
        go_region_held3 (fun w' => w'.cell? ⟨p, 1, none⟩ = some (.int .i64 cn))
          (first | assumption | exact q1' | exact y2 | exact y3 | exact y5)
          (first
            | (go_at_call 21; refine (count_any cn (unhide HBD).1 _ (unhide HP0).s.al).mono ?_; rintro e w1 ⟨rfl, rfl⟩)
            | (go_at_call 22; refine (rcount_any cn (unhide HBD).1 _ (unhide HP0).ref).mono ?_; rintro e w2 ⟨rfl, hb2⟩; have y2 := (hb2.cell (p := ⟨p, 1, none⟩) (unhide HPL')).trans q1'; have HL2 : Hid (p < w2.heap.size) := World.block_lt_of_cell? _ _ y2; have HP2 := hide ((unhide HP0).grow hb2); clear hb2)
            | (go_at_call 23; refine (room_any _ (unhide HP2).s.al).mono ?_; rintro e w3 ⟨rfl, hb3⟩; have y3 := (hb3.cell (p := ⟨p, 1, none⟩) (unhide HL2)).trans y2; have HL3 : Hid (p < w3.heap.size) := World.block_lt_of_cell? _ _ y3; have HP3 := hide ((unhide HP2).grow hb3); clear hb3)
            | (go_at_call 24; refine (rroom_any _ (unhide HP3).ref).mono ?_; rintro e w4 ⟨rfl, rfl⟩)
            | (go_at_call 25; refine (waiting_any _ (unhide HP3).s.al).mono ?_; rintro e w5 ⟨rfl, hb5⟩; have y5 := (hb5.cell (p := ⟨p, 1, none⟩) (unhide HL3)).trans y3; have HP5 := hide ((unhide HP3).grow hb5); clear hb5)
            | (go_at_call 26; refine (rwaiting_any _ (unhide HP5).ref).mono ?_; rintro e w6 ⟨rfl, rfl⟩))
        go_wp2
        go_roundw
        case rel => exact ⟨k + 1, _, by omega, by go_num, unhide HP5⟩
        case measure => simp [intOf]; omega
      go_wp2_with fail
      have q1 : (wr.alloc (.cells #[.int .i64 ck, .int .i64 cn, .int .i64 cg] 32)).cell? ⟨wr.heap.size, 1, none⟩ = some (.int .i64 cn) := by simp
      have q2 : (wr.alloc (.cells #[.int .i64 ck, .int .i64 cn, .int .i64 cg] 32)).cell? ⟨wr.heap.size, 2, none⟩ = some (.int .i64 cg) := by simp
      have HPL : Hid (wr.heap.size < (wr.alloc (.cells #[.int .i64 ck, .int .i64 cn, .int .i64 cg] 32)).heap.size) := by show wr.heap.size < (wr.alloc (.cells #[.int .i64 ck, .int .i64 cn, .int .i64 cg] 32)).heap.size; simp
      obtain ⟨p, hp⟩ : ∃ y, y = wr.heap.size := ⟨_, rfl⟩
      rw [← hp] at q1 q2 HNB HPL ⊢
      clear hp c0 c1 c2
      generalize wr.alloc (.cells #[.int .i64 ck, .int .i64 cn, .int .i64 cg] 32) = wa at *
      clear q2
      have HP0 : Hid (Pair W wa.drew d b r g fr l l) := (unhide HPA).grow (Below.refl _ _).drew
      have HPL' : Hid (p < wa.drew.heap.size) := unhide HPL
      have q1' : wa.drew.cell? ⟨p, 1, none⟩ = some (.int .i64 cn) := q1
      clear q1 HPA HPL
      go_region_held3 (fun w' => w'.cell? ⟨p, 1, none⟩ = some (.int .i64 cn))
        (first | assumption | exact q1' | exact y2 | exact y3 | exact y5)
        (first
          | (go_at_call 21; refine (count_any cn (unhide HBD).1 _ (unhide HP0).s.al).mono ?_; rintro e w1 ⟨rfl, rfl⟩)
          | (go_at_call 22; refine (rcount_any cn (unhide HBD).1 _ (unhide HP0).ref).mono ?_; rintro e w2 ⟨rfl, hb2⟩; have y2 := (hb2.cell (p := ⟨p, 1, none⟩) (unhide HPL')).trans q1'; have HL2 : Hid (p < w2.heap.size) := World.block_lt_of_cell? _ _ y2; have HP2 := hide ((unhide HP0).grow hb2); clear hb2)
          | (go_at_call 23; refine (room_any _ (unhide HP2).s.al).mono ?_; rintro e w3 ⟨rfl, hb3⟩; have y3 := (hb3.cell (p := ⟨p, 1, none⟩) (unhide HL2)).trans y2; have HL3 : Hid (p < w3.heap.size) := World.block_lt_of_cell? _ _ y3; have HP3 := hide ((unhide HP2).grow hb3); clear hb3)
          | (go_at_call 24; refine (rroom_any _ (unhide HP3).ref).mono ?_; rintro e w4 ⟨rfl, rfl⟩)
          | (go_at_call 25; refine (waiting_any _ (unhide HP3).s.al).mono ?_; rintro e w5 ⟨rfl, hb5⟩; have y5 := (hb5.cell (p := ⟨p, 1, none⟩) (unhide HL3)).trans y3; have HP5 := hide ((unhide HP3).grow hb5); clear hb5)
          | (go_at_call 26; refine (rwaiting_any _ (unhide HP5).ref).mono ?_; rintro e w6 ⟨rfl, rfl⟩))
      go_wp2
      go_roundw
      case rel => exact ⟨k + 1, _, by omega, by go_num, unhide HP5⟩
      case measure => simp [intOf]; omega
    · have hlt' : ¬ (k : Int) < (len : Int) := by omega
      go_wp2
      go_ret
      exact ⟨rfl, (unhide HP).s.bel⟩
end Go.Proofs.Ytkfpeffiphdhmaa
