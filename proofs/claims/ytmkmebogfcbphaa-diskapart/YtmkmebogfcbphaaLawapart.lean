/- The law DiskApart. -/
import Derived.Test.YtmkmebogfcbphaaMade
namespace Go.Proofs.Ytmkmebogfcbphaa
open Go.ChangeShapes Go.WideShapes Go.ChangeAt Go.RowKit

/-- no block of one is the other's -/
def Apart (fp fq : List Nat) : Prop := ∀ x ∈ fp, x ∉ fq
theorem Apart.symm {fp fq : List Nat} (h : Apart fp fq) : Apart fq fp := fun x hx hy => h x hy hx
theorem Apart.old {w : World} {d : Nat} {m : Dk} {k : Nat} {fp fq : List Nat} (h : IsDisk w d m k fp) (hq : ∀ x ∈ fq, w.heap.size ≤ x) : Apart fp fq := fun x hx hy => by
  have h1 := h.lt x hx
  have h2 := hq x hy
  omega
theorem Stp.rebase {W w0 w : World} {d : Nat} {m : Dk} {k : Nat} {fp : List Nat} (hb : Below W.heap.size W w0) (h : Stp w0 w d m k fp) : Stp W w d m k fp :=
  ⟨h.disk, hb.trans (h.bel.mono hb.size), fun x hx => Nat.le_trans hb.size (h.new x hx)⟩
theorem Stp.fresh {W w w' : World} {d : Nat} {m : Dk} {k : Nat} {fp : List Nat} (hW : Below W.heap.size W w) (h : IsDisk w' d m k fp) (hb : Below w.heap.size w w') (hx : ∀ x ∈ fp, w.heap.size ≤ x) : Stp W w' d m k fp :=
  ⟨h, hW.trans (hb.mono hW.size), fun x h1 => Nat.le_trans hW.size (hx x h1)⟩

/-- the five disks of the law: this one, its like, a copy, what a crash leaves, and a copy of that -/
structure Five (W w : World) (d1 d2 d3 d4 d5 : Nat) (m1 m2 m3 m4 m5 : Dk) (k1 k2 k3 k4 k5 : Nat) (f1 f2 f3 f4 f5 : List Nat) : Prop where
  s1 : Stp W w d1 m1 k1 f1
  s2 : Stp W w d2 m2 k2 f2
  s3 : Stp W w d3 m3 k3 f3
  s4 : Stp W w d4 m4 k4 f4
  s5 : Stp W w d5 m5 k5 f5
  a13 : Apart f1 f3
  a14 : Apart f1 f4
  a23 : Apart f2 f3
  a24 : Apart f2 f4
  a34 : Apart f3 f4
  a53 : Apart f5 f3
  a54 : Apart f5 f4

variable {W w w' : World} {d1 d2 d3 d4 d5 : Nat} {m1 m2 m3 m4 m5 : Dk} {k1 k2 k3 k4 k5 : Nat} {f1 f2 f3 f4 f5 : List Nat}

theorem Five.grow (h : Five W w d1 d2 d3 d4 d5 m1 m2 m3 m4 m5 k1 k2 k3 k4 k5 f1 f2 f3 f4 f5) (hb : Below w.heap.size w w') : Five W w' d1 d2 d3 d4 d5 m1 m2 m3 m4 m5 k1 k2 k3 k4 k5 f1 f2 f3 f4 f5 :=
  ⟨h.s1.grow hb, h.s2.grow hb, h.s3.grow hb, h.s4.grow hb, h.s5.grow hb, h.a13, h.a14, h.a23, h.a24, h.a34, h.a53, h.a54⟩
theorem Apart.next {fp fq fq' : List Nat} {d : Nat} {m : Dk} {k : Nat} (ha : Apart fp fq) (h : IsDisk w d m k fp) (hx : ∀ x ∈ fq', x ∈ fq ∨ w.heap.size ≤ x) : Apart fp fq' := fun x h1 h2 => by
  rcases hx x h2 with h3 | h3
  · exact ha x h1 h3
  · have := h.lt x h1
    omega
theorem Five.third (h : Five W w d1 d2 d3 d4 d5 m1 m2 m3 m4 m5 k1 k2 k3 k4 k5 f1 f2 f3 f4 f5) {m' : Dk} {k' : Nat} (ht : Turned w w' d3 m' k' f3) : ∃ f', Five W w' d1 d2 d3 d4 d5 m1 m2 m' m4 m5 k1 k2 k' k4 k5 f1 f2 f' f4 f5 := by
  have hm := ht.moves
  obtain ⟨f', h1, _, hx⟩ := ht
  have hb := Moves.below h.s3.bel hm h.s3.new h.s3.bel.size
  refine ⟨f', ⟨h.s1.disk.keep hm h.a13, hb, h.s1.new⟩, ⟨h.s2.disk.keep hm h.a23, hb, h.s2.new⟩, ⟨h1, hb, fun x h2 => ?_⟩, ⟨h.s4.disk.keep hm h.a34.symm, hb, h.s4.new⟩, ⟨h.s5.disk.keep hm h.a53, hb, h.s5.new⟩, h.a13.next h.s1.disk hx, h.a14, h.a23.next h.s2.disk hx, h.a24, (h.a34.symm.next h.s4.disk hx).symm, h.a53.next h.s5.disk hx, h.a54⟩
  rcases hx x h2 with h3 | h3
  · exact h.s3.new x h3
  · exact Nat.le_trans h.s3.bel.size h3
theorem Five.fourth (h : Five W w d1 d2 d3 d4 d5 m1 m2 m3 m4 m5 k1 k2 k3 k4 k5 f1 f2 f3 f4 f5) {m' : Dk} {k' : Nat} (ht : Turned w w' d4 m' k' f4) : ∃ f', Five W w' d1 d2 d3 d4 d5 m1 m2 m3 m' m5 k1 k2 k3 k' k5 f1 f2 f3 f' f5 := by
  have hm := ht.moves
  obtain ⟨f', h1, _, hx⟩ := ht
  have hb := Moves.below h.s4.bel hm h.s4.new h.s4.bel.size
  refine ⟨f', ⟨h.s1.disk.keep hm h.a14, hb, h.s1.new⟩, ⟨h.s2.disk.keep hm h.a24, hb, h.s2.new⟩, ⟨h.s3.disk.keep hm h.a34, hb, h.s3.new⟩, ⟨h1, hb, fun x h2 => ?_⟩, ⟨h.s5.disk.keep hm h.a54, hb, h.s5.new⟩, h.a13, h.a14.next h.s1.disk hx, h.a23, h.a24.next h.s2.disk hx, h.a34.next h.s3.disk hx, h.a53, h.a54.next h.s5.disk hx⟩
  rcases hx x h2 with h3 | h3
  · exact h.s4.new x h3
  · exact Nat.le_trans h.s4.bel.size h3

set_option maxHeartbeats 8000000 in
set_option maxRecDepth 20000 in
theorem apart_walk (f g : Nat → Cl) (fs : List Int) (a0 : Option Addr) (len0 cap0 : Nat) (a1 : Option Addr) (len1 cap1 : Nat) (v : Value) (W : World) (h0 : IsCalls W a0 len0 f) (h1 : IsCalls W a1 len1 g) (h2 : IsInts W v fs ∧ fs.length ≤ maxLen) :
    Calls Try.prog 6 #[.slice a0 len0 cap0, .slice a1 len1 cap1, v] W fun e w' => e = .returned (.bool true) ∧ Below W.heap.size W w' := by
  obtain ⟨hv, hvl⟩ := h2
  obtain ⟨av, capv, rfl, hfs⟩ := id hv
  have HI := hide h0
  have HJ := hide h1
  have HV := hide hv
  clear h0 h1 hv hfs hvl
  go_enter Try.func6, Try.ntmps6
  go_wp2_with (go_at_call 8; refine (awake_any _).mono ?_; rintro e w0 ⟨rfl, hb0⟩; have HB0 := hide hb0; have HI0 := hide ((unhide HI).grow hb0 (Nat.le_refl _)); have HJ0 := hide ((unhide HJ).grow hb0 (Nat.le_refl _)); have HV0 := hide ((unhide HV).grow hb0 (Nat.le_refl _)); clear hb0)
  refine (long_any f a0 len0 cap0 w0 (unhide HI0)).mono ?_
  rintro e w' ⟨rfl, rfl | ⟨rfl, hsh⟩⟩
  · go_wp2
    go_ret
    exact ⟨rfl, unhide HB0⟩
  go_wp2_with fail
  refine (long_any g a1 len1 cap1 _ (unhide HJ0)).mono ?_
  rintro e w' ⟨rfl, rfl | ⟨rfl, hsh2⟩⟩
  · go_wp2
    go_ret
    exact ⟨rfl, unhide HB0⟩
  by_cases hfl : 200 < fs.length
  · have hfl' : (200 : Int) < (fs.length : Int) := by omega
    go_wp2
    go_ret
    exact ⟨rfl, unhide HB0⟩
  have hfl' : ¬ (200 : Int) < (fs.length : Int) := by omega
  have hlen0 := hsh.1
  have hlen1 := hsh2.1
  clear hsh hsh2
  go_wp2_with fail
  refine (made_any f a0 len0 cap0 _ (unhide HI0) (by omega)).mono ?_
  rintro e w1 ⟨d1, f1, rfl, hs1⟩
  have hS1 := Stp.rebase (unhide HB0) hs1
  have hb1 := hS1.bel
  have HS1 := hide hS1
  have HI1 := hide ((unhide HI).grow hb1 (Nat.le_refl _))
  clear hs1 hS1 hb1
  go_wp2_with fail
  refine (made_any f a0 len0 cap0 _ (unhide HI1) (by omega)).mono ?_
  rintro e w2 ⟨d2, f2, rfl, hs2⟩
  have HS12 := hide ((unhide HS1).grow hs2.bel)
  have HS2 := hide (Stp.rebase (unhide HS1).bel hs2)
  clear hs2
  generalize playM f len0 = M at *
  go_wp2_with fail
  refine (copy_any _ _ (unhide HS12).disk (by omega)).mono ?_
  rintro e w3 ⟨d3, f3, rfl, hI3, hb3, hx3⟩
  have HS3 := hide (Stp.fresh (unhide HS2).bel hI3 hb3 hx3)
  have HS13 := hide ((unhide HS12).grow hb3)
  have HS23 := hide ((unhide HS2).grow hb3)
  have HA13 := hide (Apart.old (unhide HS12).disk hx3)
  have HA23 := hide (Apart.old (unhide HS2).disk hx3)
  clear hI3 hb3 hx3
  go_wp2_with fail
  refine (crash_any fs _ _ _ (unhide HS13).disk ((unhide HV).grow (unhide HS13).bel (Nat.le_refl _)) (by omega)).mono ?_
  rintro e w4 ⟨d4, f4, rfl, hI4, hb4, hx4⟩
  have HS4 := hide (Stp.fresh (unhide HS3).bel hI4 hb4 hx4)
  have HS14 := hide ((unhide HS13).grow hb4)
  have HS24 := hide ((unhide HS23).grow hb4)
  have HS34 := hide ((unhide HS3).grow hb4)
  have HA14 := hide (Apart.old (unhide HS13).disk hx4)
  have HA24 := hide (Apart.old (unhide HS23).disk hx4)
  have HA34 := hide (Apart.old (unhide HS3).disk hx4)
  clear hI4 hb4 hx4
  go_wp2_with fail
  refine (copy_any _ _ (unhide HS4).disk (by omega)).mono ?_
  rintro e w5 ⟨d5, f5, rfl, hI5, hb5, hx5⟩
  have hF : Five W w5 d1 d2 d3 d4 d5 M M M (crashM M fs) (crashM M fs) len0 len0 len0 len0 len0 f1 f2 f3 f4 f5 :=
    ⟨(unhide HS14).grow hb5, (unhide HS24).grow hb5, (unhide HS34).grow hb5, (unhide HS4).grow hb5, Stp.fresh (unhide HS4).bel hI5 hb5 hx5, unhide HA13, unhide HA14, unhide HA23, unhide HA24, unhide HA34, (Apart.old (unhide HS34).disk hx5).symm, (Apart.old (unhide HS4).disk hx5).symm⟩
  have HF := hide hF
  obtain ⟨C, hC⟩ : ∃ C, C = crashM M fs := ⟨_, rfl⟩
  rw [← hC] at HF
  have HC := hide hC
  clear hI5 hb5 hx5 hF hC HS1 HI1 HS12 HS2 HS3 HS13 HS23 HA13 HA23 HS4 HS14 HS24 HS34 HA14 HA24 HA34 HI0 HJ0 HV0
  go_wp2_with fail
  go_loopw [12] (fun j wr => ∃ (k : Nat) (m3 m4 : Dk) (f3 f4 : List Nat), k ≤ len1 ∧ j = .int .i64 (k : Int) ∧ Five W wr d1 d2 d3 d4 d5 M M m3 m4 C len0 len0 (len0 + k) (len0 + k) len0 f1 f2 f3 f4 f5) (fun j _ => len1 - (intOf j).toNat)
  case atStart => exact ⟨0, _, _, _, _, Nat.zero_le _, rfl, unhide HF⟩
  case round =>
    clear HF
    obtain ⟨k, m3, m4, f3, f4, hk, rfl, hF⟩ := hrel
    have HF := hide hF
    clear hF
    by_cases hlt : k < len1
    · have hlt' : (k : Int) < (len1 : Int) := by omega
      have hk6 : k < 121 := by omega
      obtain ⟨_, h0 | ⟨b, off, rfl, hc⟩⟩ := unhide HJ
      · omega
      have hcW := hc k hlt
      have hbl : b < W.heap.size := World.block_lt_of_cell? _ _ hcW.c0
      have hck := hcW.grow (unhide HF).s1.bel (Nat.le_refl _)
      generalize g k = cl at *
      obtain ⟨ck, cn, ccut, ca, cb, cv, cfs⟩ := cl
      have c0 := hck.c0
      have c1 := hck.c1
      have c3 := hck.c3
      have c4 := hck.c4
      simp only at c0 c1 c3 c4
      have HBL := hide hbl
      clear hc hck hcW hbl
      by_cases hk0 : ck = 0
      · subst hk0
        have HC0 : Hid (∀ w', Below W.heap.size W w' → w'.cell? ⟨b, off + k * 6, none⟩ = some (.int .i64 0)) := fun w' hb' => (hb'.cell (p := ⟨b, off + k * 6, none⟩) (unhide HBL)).trans (((unhide HF).s1.bel.cell (p := ⟨b, off + k * 6, none⟩) (unhide HBL)).symm.trans c0)
        go_wp2_with fail
        have HFA : Hid (Five W wr.drew d1 d2 d3 d4 d5 M M m3 m4 C len0 len0 (len0 + k) (len0 + k) len0 f1 f2 f3 f4 f5) := (unhide HF).grow (Below.refl _ _).drew
        have q1' : wr.drew.cell? ⟨b, off + k * 6 + 1, none⟩ = some (.int .i64 cn) := c1
        have q3' : wr.drew.cell? ⟨b, off + k * 6 + 3, none⟩ = some (.int .u8 (ca : Int)) := c3
        have q4' : wr.drew.cell? ⟨b, off + k * 6 + 4, none⟩ = some (.int .u8 (cb : Int)) := c4
        have HPN : Hid (b ∉ f3) := fun hx => by have := (unhide HF).s3.new _ hx; have := unhide HBL; omega
        have HPL : Hid (b < wr.drew.heap.size) := World.block_lt_of_cell? _ _ q1'
        clear c0 c1 c3 c4
        go_region_held3 (fun w' => w'.cell? ⟨b, off + k * 6 + 1, none⟩ = some (.int .i64 cn) ∧ w'.cell? ⟨b, off + k * 6 + 3, none⟩ = some (.int .u8 (ca : Int)) ∧ w'.cell? ⟨b, off + k * 6 + 4, none⟩ = some (.int .u8 (cb : Int)))
          (first | assumption | exact ⟨q1', q3', q4'⟩ | exact ⟨y1, y3, y4⟩ | exact ⟨z1, z3, z4⟩)
          (first
            | (go_at_call 17; go_split_ands; refine (data_any ca cb _).mono ?_; rintro e w6 ⟨rfl, hb6⟩; have y1 := (hb6.cell (p := ⟨b, off + k * 6 + 1, none⟩) (unhide HPL)).trans q1'; have y3 := (hb6.cell (p := ⟨b, off + k * 6 + 3, none⟩) (unhide HPL)).trans q3'; have y4 := (hb6.cell (p := ⟨b, off + k * 6 + 4, none⟩) (unhide HPL)).trans q4'; have HF6 := hide ((unhide HFA).grow hb6); clear hb6)
            | (go_at_call 16; go_split_ands; refine (write_any cn (dataS ca cb) f3 _ (unhide HF6).s3.disk (by omega)).mono ?_; rintro e w7 ⟨rfl, ht7⟩; have hmv := ht7.moves; have z1 := hmv.cell y1 (unhide HPN); have z3 := hmv.cell y3 (unhide HPN); have z4 := hmv.cell y4 (unhide HPN); obtain ⟨f37, hF7⟩ := (unhide HF6).third ht7; have HF7 := hide hF7; clear ht7 hF7 hmv))
        go_wp2_with fail
        have HFB := hide ((unhide HF7).grow (Below.refl _ _).drew)
        have r1' : w7.drew.cell? ⟨b, off + k * 6 + 1, none⟩ = some (.int .i64 cn) := z1
        have r3' : w7.drew.cell? ⟨b, off + k * 6 + 3, none⟩ = some (.int .u8 (ca : Int)) := z3
        have r4' : w7.drew.cell? ⟨b, off + k * 6 + 4, none⟩ = some (.int .u8 (cb : Int)) := z4
        have HPN4 : Hid (b ∉ f4) := fun hx => by have := (unhide HF).s4.new _ hx; have := unhide HBL; omega
        have HPL7 : Hid (b < w7.drew.heap.size) := World.block_lt_of_cell? _ _ r1'
        clear q1' q3' q4' y1 y3 y4 z1 z3 z4
        go_region_held3 (fun w' => w'.cell? ⟨b, off + k * 6 + 1, none⟩ = some (.int .i64 cn) ∧ w'.cell? ⟨b, off + k * 6 + 3, none⟩ = some (.int .u8 (ca : Int)) ∧ w'.cell? ⟨b, off + k * 6 + 4, none⟩ = some (.int .u8 (cb : Int)))
          (first | assumption | exact ⟨r1', r3', r4'⟩ | exact ⟨s1, s3, s4⟩ | exact ⟨t1, t3, t4⟩)
          (first
            | (go_at_call 17; go_split_ands; refine (data_any cb ca _).mono ?_; rintro e w8 ⟨rfl, hb8⟩; have s1 := (hb8.cell (p := ⟨b, off + k * 6 + 1, none⟩) (unhide HPL7)).trans r1'; have s3 := (hb8.cell (p := ⟨b, off + k * 6 + 3, none⟩) (unhide HPL7)).trans r3'; have s4 := (hb8.cell (p := ⟨b, off + k * 6 + 4, none⟩) (unhide HPL7)).trans r4'; have HF8 := hide ((unhide HFB).grow hb8); clear hb8)
            | (go_at_call 16; go_split_ands; refine (write_any cn (dataS cb ca) f4 _ (unhide HF8).s4.disk (by omega)).mono ?_; rintro e w9 ⟨rfl, ht9⟩; have hmv := ht9.moves; have t1 := hmv.cell s1 (unhide HPN4); have t3 := hmv.cell s3 (unhide HPN4); have t4 := hmv.cell s4 (unhide HPN4); obtain ⟨f49, hF9⟩ := (unhide HF8).fourth ht9; have HF9 := hide hF9; clear ht9 hF9 hmv))
        have x0 := unhide HC0 _ (unhide HF9).s1.bel
        go_wp2
        go_roundw
        case rel => exact ⟨k + 1, _, _, _, _, by omega, by go_num, unhide HF9⟩
        case measure => simp [intOf]; omega
      · by_cases hk1 : ck = 1
        · subst hk1
          go_wp2_with fail
          refine (flush_any _ _ (unhide HF).s3.disk (by omega)).mono ?_
          rintro e w6 ⟨rfl, ht6⟩
          obtain ⟨f36, hF6⟩ := (unhide HF).third ht6
          have HF6 := hide hF6
          clear ht6 hF6
          go_wp2_with fail
          refine (flush_any _ _ (unhide HF6).s4.disk (by omega)).mono ?_
          rintro e w7 ⟨rfl, ht7⟩
          obtain ⟨f47, hF7⟩ := (unhide HF6).fourth ht7
          have HF7 := hide hF7
          clear ht7 hF7
          go_wp2
          go_roundw
          case rel =>
            have h := unhide HF7
            exact ⟨k + 1, _, _, _, _, by omega, by go_num, h.s1, h.s2, h.s3.mono (by omega), h.s4.mono (by omega), h.s5, h.a13, h.a14, h.a23, h.a24, h.a34, h.a53, h.a54⟩
          case measure => simp [intOf]; omega
        · go_wp2
          go_roundw
          case rel =>
            have h := unhide HF
            exact ⟨k + 1, _, _, _, _, by omega, by go_num, h.s1, h.s2, h.s3.mono (by omega), h.s4.mono (by omega), h.s5, h.a13, h.a14, h.a23, h.a24, h.a34, h.a53, h.a54⟩
          case measure => simp [intOf]; omega
    · have hlt' : ¬ (k : Int) < (len1 : Int) := by omega
      go_wp2_with fail
      go_loopw [13] (fun j wr => ∃ n : Nat, n ≤ 8 ∧ j = .int .i64 (n : Int) ∧ Stp W wr d1 M len0 f1 ∧ Stp W wr d2 M len0 f2 ∧ Stp W wr d5 C len0 f5) (fun j _ => 8 - (intOf j).toNat)
      case atStart => exact ⟨0, Nat.zero_le _, rfl, (unhide HF).s1, (unhide HF).s2, (unhide HF).s5⟩
      case round =>
        clear HF
        obtain ⟨n, hn, rfl, g1, g2, g5⟩ := hrel
        have G1 := hide g1
        have G2 := hide g2
        have G5 := hide g5
        clear g1 g2 g5
        by_cases hn8 : n < 8
        · have hn8' : (n : Int) < 8 := by omega
          go_wp2_with fail
          obtain ⟨fb, lb, ov, hA, _⟩ := (unhide G1).disk
          refine (read_any (n : Int) _ hA).mono ?_
          rintro e w6 ⟨rfl, hb6⟩
          have G16 := hide ((unhide G1).grow hb6)
          have G26 := hide ((unhide G2).grow hb6)
          have G56 := hide ((unhide G5).grow hb6)
          clear hb6 hA
          go_wp2_with fail
          obtain ⟨fb2, lb2, ov2, hA2, _⟩ := (unhide G26).disk
          refine (read_any (n : Int) _ hA2).mono ?_
          rintro e w7 ⟨rfl, hb7⟩
          have G17 := hide ((unhide G16).grow hb7)
          have G27 := hide ((unhide G26).grow hb7)
          have G57 := hide ((unhide G56).grow hb7)
          clear hb7 hA2
          go_wp2_with fail
          refine (crash_any fs _ _ _ (unhide G17).disk ((unhide HV).grow (unhide G17).bel (Nat.le_refl _)) (by omega)).mono ?_
          rintro e w8 ⟨d8, f8, rfl, hI8, hb8, hx8⟩
          have G18 := hide ((unhide G17).grow hb8)
          have G28 := hide ((unhide G27).grow hb8)
          have G58 := hide ((unhide G57).grow hb8)
          rw [← unhide HC] at hI8
          have HI8 := hide hI8
          clear hb8 hI8 hx8
          go_wp2_with fail
          obtain ⟨fb3, lb3, ov3, hA3, _⟩ := unhide HI8
          refine (read_any (n : Int) _ hA3).mono ?_
          rintro e w9 ⟨rfl, hb9⟩
          have G19 := hide ((unhide G18).grow hb9)
          have G29 := hide ((unhide G28).grow hb9)
          have G59 := hide ((unhide G58).grow hb9)
          clear hb9 hA3
          go_wp2_with fail
          obtain ⟨fb4, lb4, ov4, hA4, _⟩ := (unhide G59).disk
          refine (read_any (n : Int) _ hA4).mono ?_
          rintro e w10 ⟨rfl, hb10⟩
          have G1a := hide ((unhide G19).grow hb10)
          have G2a := hide ((unhide G29).grow hb10)
          have G5a := hide ((unhide G59).grow hb10)
          clear hb10 hA4
          generalize (readM M (n : Int)).1 = R1 at *
          generalize (readM M (n : Int)).2 = R2 at *
          generalize (readM C (n : Int)).1 = R3 at *
          generalize (readM C (n : Int)).2 = R4 at *
          go_wp2
          go_roundw
          case rel => exact ⟨n + 1, by omega, by go_num, unhide G1a, unhide G2a, unhide G5a⟩
          case measure => simp [intOf]; omega
        · have hn8' : ¬ (n : Int) < 8 := by omega
          go_wp2_with fail
          obtain ⟨fb, lb, ov, hA, _⟩ := (unhide G1).disk
          refine (open_any _ hA).mono ?_
          rintro e w6 ⟨rfl, rfl⟩
          clear hA
          go_wp2_with fail
          obtain ⟨fb, lb, ov, hA, _⟩ := (unhide G2).disk
          refine (open_any _ hA).mono ?_
          rintro e w7 ⟨rfl, rfl⟩
          clear hA
          go_wp2_with fail
          obtain ⟨fb, lb, ov, hA, _⟩ := (unhide G1).disk
          refine (down_any _ hA).mono ?_
          rintro e w8 ⟨rfl, rfl⟩
          clear hA
          go_wp2_with fail
          obtain ⟨fb, lb, ov, hA, _⟩ := (unhide G2).disk
          refine (down_any _ hA).mono ?_
          rintro e w9 ⟨rfl, rfl⟩
          clear hA
          go_wp2
          go_ret
          refine ⟨?_, (unhide G1).bel⟩
          simp
end Go.Proofs.Ytmkmebogfcbphaa
