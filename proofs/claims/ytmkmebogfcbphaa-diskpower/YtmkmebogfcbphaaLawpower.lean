/- The law DiskPower. -/
import Derived.Test.YtmkmebogfcbphaaLong
namespace Go.Proofs.Ytmkmebogfcbphaa
open Go.ChangeShapes Go.WideShapes Go.ChangeAt Go.RowKit

/-- where the loop stands: the power has as many calls left as are not done yet -/
structure Pow (W w : World) (d : Nat) (m : Dk) (k done : Nat) (calls : Int) (fp : List Nat) : Prop where
  disk : IsDisk w d m k fp
  gone : m.gone = false
  left : m.left = calls - done
  here : (done : Int) ≤ calls
  few : done ≤ k
  bel : Below W.heap.size W w
  new : ∀ x ∈ fp, W.heap.size ≤ x

theorem clone_cells {w : World} {c : Cl} : ∀ i u, [Value.int .i64 c.k, .int .i64 c.n, .int .i64 c.cut, .int .u8 (c.a : Int), .int .u8 (c.b : Int), c.v][i]? = some u →
    (w.alloc (.cells #[.int .i64 c.k, .int .i64 c.n, .int .i64 c.cut, .int .u8 (c.a : Int), .int .u8 (c.b : Int), c.v] 36)).cell? ⟨w.heap.size, i, none⟩ = some u := by
  intro i u h
  simpa using h

/-- what a call of the power's does -/
def PowNext (m m' : Dk) (E calls : Int) (done : Nat) : Prop :=
  (E = 30 ∧ m'.gone = true ∧ calls = (done : Int)) ∨ (E = 31 ∧ m' = m) ∨ (E = 0 ∧ m'.gone = false ∧ m'.left = calls - ((done + 1 : Nat) : Int) ∧ ((done + 1 : Nat) : Int) ≤ calls)
theorem pow_write {m : Dk} {calls : Int} {done : Nat} (hg : m.gone = false) (hl : m.left = calls - done) (hh : (done : Int) ≤ calls) (n : Int) (D : ByteArray) (hD : D.size = 1024) : PowNext m (writeM m n D) (writeE m n D) calls done := by
  unfold PowNext writeM writeE
  rw [hg]
  simp only [Bool.false_eq_true, if_false]
  by_cases h0 : m.left = 0
  · rw [if_pos h0, if_pos h0]
    exact .inl ⟨rfl, rfl, by omega⟩
  · rw [if_neg h0, if_neg h0]
    by_cases hn : n < 0 ∨ (m.old.length : Int) ≤ n
    · rw [if_pos hn, if_pos hn]
      exact .inr (.inl ⟨rfl, rfl⟩)
    · rw [if_neg hn, if_neg hn, if_neg (by omega), if_neg (by omega)]
      refine .inr (.inr ⟨rfl, rfl, ?_, by omega⟩)
      show spent m.left = _
      unfold spent
      rw [if_pos (by omega)]
      omega
theorem pow_flush {m : Dk} {calls : Int} {done : Nat} (hg : m.gone = false) (hl : m.left = calls - done) (hh : (done : Int) ≤ calls) : PowNext m (flushM m) (flushE m) calls done := by
  unfold PowNext flushM flushE
  rw [hg]
  simp only [Bool.false_eq_true, if_false]
  by_cases h0 : m.left = 0
  · rw [if_pos h0, if_pos h0]
    exact .inl ⟨rfl, rfl, by omega⟩
  · rw [if_neg h0, if_neg h0]
    refine .inr (.inr ⟨rfl, rfl, ?_, by omega⟩)
    show spent m.left = _
    unfold spent
    rw [if_pos (by omega)]
    omega
theorem gone_write {m : Dk} (h : m.gone = true) (n : Int) (D : ByteArray) : writeE m n D = 30 ∧ writeM m n D = m := by
  unfold writeE writeM
  rw [if_pos h, if_pos h]
  exact ⟨rfl, rfl⟩
theorem gone_flush {m : Dk} (h : m.gone = true) : flushE m = 30 ∧ flushM m = m := by
  unfold flushE flushM
  rw [if_pos h, if_pos h]
  exact ⟨rfl, rfl⟩
theorem gone_read {m : Dk} (h : m.gone = true) (n : Int) : readM m n = (ByteArray.empty, 30) := by
  unfold readM
  rw [if_pos h]

set_option maxHeartbeats 8000000 in
set_option maxRecDepth 20000 in
theorem power_walk (f : Nat → Cl) (a : Option Addr) (len cap : Nat) (calls : Int) (W : World) (h : IsCalls W a len f) (hc : -9223372036854775808 ≤ calls ∧ calls ≤ 9223372036854775807) :
    Calls Try.prog 5 #[.slice a len cap, .int .i64 calls] W fun e w' => e = .returned (.bool true) ∧ Below W.heap.size W w' := by
  have HI := hide h
  have HC := hide hc
  clear h hc
  go_enter Try.func5, Try.ntmps5
  go_wp2_with (go_at_call 8; refine (awake_any _).mono ?_; rintro e w0 ⟨rfl, hb0⟩; have HB0 := hide hb0; have HI0 := hide ((unhide HI).grow hb0 (Nat.le_refl _)); clear hb0)
  refine (long_any f a len cap w0 (unhide HI0)).mono ?_
  rintro e w' ⟨rfl, rfl | ⟨rfl, hsh⟩⟩
  · go_wp2
    go_ret
    exact ⟨rfl, unhide HB0⟩
  by_cases hneg : calls < 0
  · go_wp2
    go_ret
    exact ⟨rfl, unhide HB0⟩
  have hlen := hsh.1
  have HSH := hide hsh
  clear hsh
  go_wp2_with (first
    | (go_at_call 10; refine (new_any 8 _ (by decide) (by decide)).mono ?_; rintro e w1 ⟨d, fp, rfl, hI, hb1, hfp⟩; have hD1 : IsDisk w1 d (newM 8) 0 fp := hI; have HD1 := hide hD1; have HB1 := hide hb1; have HFP := hide hfp; clear hI hb1 hfp hD1)
    | (go_at_call 21; refine (power_any calls (unhide HC).2 _ _ (unhide HD1)).mono ?_; rintro e w2 ⟨rfl, ht⟩; have HT2 := hide ht; clear ht))
  have hpow : ∃ fp2, Pow W w2 d (powerM (newM 8) calls) 0 0 calls fp2 := by
    obtain ⟨fp2, hI2, hm2, hx2⟩ := unhide HT2
    have b0 := unhide HB0
    have b1 : Below W.heap.size W w1 := b0.trans ((unhide HB1).mono b0.size)
    have hfp := unhide HFP
    refine ⟨fp2, hI2, rfl, ?_, by show ((0 : Nat) : Int) ≤ calls; omega, Nat.le_refl _, Moves.below b1 hm2 (fun x hx => Nat.le_trans b0.size (hfp x hx)) b1.size, fun x hx => ?_⟩
    · show max calls (-1) = calls - ((0 : Nat) : Int)
      omega
    · rcases hx2 x hx with h | h
      · exact Nat.le_trans b0.size (hfp x h)
      · exact Nat.le_trans b1.size h
  generalize powerM (newM 8) calls = m0 at *
  have HP := hide hpow
  clear hpow HT2 HD1 HB1 HFP
  go_loopw [7, 8] (fun t j wr => ∃ (k done : Nat) (m : Dk) (fp : List Nat), k ≤ len ∧ j = .int .i64 (k : Int) ∧ t = .int .i64 (done : Int) ∧ Pow W wr d m k done calls fp) (fun _ j _ => len - (intOf j).toNat)
  case atStart =>
    obtain ⟨fp2, hp⟩ := unhide HP
    exact ⟨0, 0, _, fp2, Nat.zero_le _, rfl, rfl, hp⟩
  case round =>
    clear HP
    obtain ⟨k, done, m, fp, hk, rfl, rfl, hP⟩ := hrel
    have HP := hide hP
    clear hP
    by_cases hlt : k < len
    · have hlt' : (k : Int) < (len : Int) := by omega
      have hk6 : k < 121 := by omega
      have hdk := (unhide HP).few
      obtain ⟨_, h0 | ⟨b, off, rfl, hc⟩⟩ := unhide HI
      · omega
      have hck := (hc k hlt).grow (unhide HP).bel (Nat.le_refl _)
      clear hc
      generalize f k = cl at hck
      obtain ⟨ck, cn, ccut, ca, cb, cv, cfs⟩ := cl
      have c0 := hck.c0
      have c1 := hck.c1
      have c2 := hck.c2
      have c3 := hck.c3
      have c4 := hck.c4
      have c5 := hck.c5
      obtain ⟨av, capv, ev, _⟩ := hck.ints
      simp only at c0 c1 c2 c3 c4 c5 ev
      subst ev
      clear hck
      by_cases hk0 : ck = 0
      · subst hk0
        go_wp2_with fail
        have q1 : (wr.alloc (.cells #[.int .i64 0, .int .i64 cn, .int .i64 ccut, .int .u8 (ca : Int), .int .u8 (cb : Int), .slice av cfs.length capv] 36)).cell? ⟨wr.heap.size, 1, none⟩ = some (.int .i64 cn) := by simp
        have q3 : (wr.alloc (.cells #[.int .i64 0, .int .i64 cn, .int .i64 ccut, .int .u8 (ca : Int), .int .u8 (cb : Int), .slice av cfs.length capv] 36)).cell? ⟨wr.heap.size, 3, none⟩ = some (.int .u8 (ca : Int)) := by simp
        have q4 : (wr.alloc (.cells #[.int .i64 0, .int .i64 cn, .int .i64 ccut, .int .u8 (ca : Int), .int .u8 (cb : Int), .slice av cfs.length capv] 36)).cell? ⟨wr.heap.size, 4, none⟩ = some (.int .u8 (cb : Int)) := by simp
        have hSa : Stp W (wr.alloc (.cells #[.int .i64 0, .int .i64 cn, .int .i64 ccut, .int .u8 (ca : Int), .int .u8 (cb : Int), .slice av cfs.length capv] 36)) d m k fp := Stp.grow ⟨(unhide HP).disk, (unhide HP).bel, (unhide HP).new⟩ ((Below.refl _ _).alloc (Nat.le_refl _) _)
        have hpn : wr.heap.size ∉ fp := fun hx => by have := (unhide HP).disk.lt _ hx; omega
        have hpl : wr.heap.size < (wr.alloc (.cells #[.int .i64 0, .int .i64 cn, .int .i64 ccut, .int .u8 (ca : Int), .int .u8 (cb : Int), .slice av cfs.length capv] 36)).heap.size := by simp
        obtain ⟨p, hp⟩ : ∃ y, y = wr.heap.size := ⟨_, rfl⟩
        rw [← hp] at q1 q3 q4 hpn hpl ⊢
        clear hp
        generalize wr.alloc (.cells #[.int .i64 0, .int .i64 cn, .int .i64 ccut, .int .u8 (ca : Int), .int .u8 (cb : Int), .slice av cfs.length capv] 36) = wa at *
        have HSA : Hid (Stp W wa.drew d m k fp) := hSa.grow (Below.refl _ _).drew
        have q1' : wa.drew.cell? ⟨p, 1, none⟩ = some (.int .i64 cn) := q1
        have q3' : wa.drew.cell? ⟨p, 3, none⟩ = some (.int .u8 (ca : Int)) := q3
        have q4' : wa.drew.cell? ⟨p, 4, none⟩ = some (.int .u8 (cb : Int)) := q4
        have HPN := hide hpn
        have HPL : Hid (p < wa.drew.heap.size) := hpl
        have hnx := pow_write (unhide HP).gone (unhide HP).left (unhide HP).here cn (dataS ca cb) (dataS_size ca cb)
        have HNX := hide hnx
        clear q1 q3 q4 hSa hpn hpl hnx c0 c1 c2 c3 c4 c5
        go_region_held3 (fun w' => w'.cell? ⟨p, 1, none⟩ = some (.int .i64 cn) ∧ w'.cell? ⟨p, 3, none⟩ = some (.int .u8 (ca : Int)) ∧ w'.cell? ⟨p, 4, none⟩ = some (.int .u8 (cb : Int)))
          (first | assumption | exact ⟨q1', q3', q4'⟩ | exact ⟨y1, y3, y4⟩ | exact ⟨z1, z3, z4⟩)
          (first
            | (go_at_call 17; go_split_ands; refine (data_any ca cb _).mono ?_; rintro e w3 ⟨rfl, hb3⟩; have y1 := (hb3.cell (p := ⟨p, 1, none⟩) (unhide HPL)).trans q1'; have y3 := (hb3.cell (p := ⟨p, 3, none⟩) (unhide HPL)).trans q3'; have y4 := (hb3.cell (p := ⟨p, 4, none⟩) (unhide HPL)).trans q4'; have HS3 := hide ((unhide HSA).grow hb3); clear hb3)
            | (go_at_call 16; go_split_ands; refine (write_any cn (dataS ca cb) fp _ (unhide HS3).disk (by omega)).mono ?_; rintro e w4 ⟨rfl, ht4⟩; have hmv := ht4.moves; have z1 := hmv.cell y1 (unhide HPN); have z3 := hmv.cell y3 (unhide HPN); have z4 := hmv.cell y4 (unhide HPN); obtain ⟨fp4, hS4⟩ := (unhide HS3).turn ht4; have HS4 := hide hS4; clear ht4 hS4 hmv))
        have hnx := unhide HNX
        clear HNX q1' q3' q4' y1 y3 y4 z1 z3 z4
        generalize writeM m cn (dataS ca cb) = m4 at *
        generalize writeE m cn (dataS ca cb) = E4 at *
        rcases hnx with hA | hA | hA

        · obtain ⟨hE, hg4, rfl⟩ := hA
          rw [hE]
          have HG4 := hide hg4
          have hl9 : ¬ (done : Int) < (done : Int) := Int.lt_irrefl _
          clear hE hg4
          go_wp2_with (first
            | (go_at_call 20; obtain ⟨fb, lb, ov, hA, _⟩ := (unhide HS4).disk; refine (down_any _ hA).mono ?_; rintro e w5 ⟨rfl, rfl⟩; rw [unhide HG4]; clear hA)
            | (go_at_call 15; obtain ⟨fb, lb, ov, hA, _⟩ := (unhide HS4).disk; refine (read_any 0 _ hA).mono ?_; rintro e w6 ⟨rfl, hb6⟩; rw [gone_read (unhide HG4)]; have HS6 := hide ((unhide HS4).grow hb6); clear hb6 hA)
            | (go_at_call 17; refine (data_any 1 1 _).mono ?_; rintro e w7 ⟨rfl, hb7⟩; have HS7 := hide ((unhide HS6).grow hb7); clear hb7)
            | (go_at_call 16; refine (write_any 0 _ _ _ (unhide HS7).disk (by omega)).mono ?_; rintro e w8 ⟨rfl, ht8⟩; rw [(gone_write (unhide HG4) _ _).1]; rw [(gone_write (unhide HG4) _ _).2] at ht8; obtain ⟨fp8, hS8⟩ := (unhide HS7).turn ht8; have HS8 := hide hS8; clear ht8 hS8)
            | (go_at_call 22; refine (flush_any _ _ (unhide HS8).disk (by omega)).mono ?_; rintro e w9 ⟨rfl, ht9⟩; rw [(gone_flush (unhide HG4)).1]; rw [(gone_flush (unhide HG4)).2] at ht9; obtain ⟨fp9, hS9⟩ := (unhide HS8).turn ht9; have HS9 := hide hS9; clear ht9 hS9)
            | (go_at_call 19; obtain ⟨fb, lb, ov, hA, _⟩ := (unhide HS9).disk; refine (open_any _ hA).mono ?_; rintro e w10 ⟨rfl, rfl⟩; clear hA)
            | (go_at_call 19; obtain ⟨fb, lb, ov, hA, _⟩ := (unhide HS6).disk; refine (open_any _ hA).mono ?_; rintro e w11 ⟨rfl, rfl⟩; clear hA))
          go_ret
          exact ⟨rfl, (unhide HS9).bel⟩
        · obtain ⟨hE, hm4⟩ := hA
          rw [hE]
          have hg4 : m4.gone = false := by rw [hm4]; exact (unhide HP).gone
          have hl9 : ¬ calls < (done : Int) := by have := (unhide HP).here; omega
          have HG4 := hide hg4
          have HM4 := hide hm4
          clear hE hg4 hm4
          go_wp2_with (go_at_call 20; obtain ⟨fb, lb, ov, hA, _⟩ := (unhide HS4).disk; refine (down_any _ hA).mono ?_; rintro e w5 ⟨rfl, rfl⟩; rw [unhide HG4]; clear hA)
          go_roundw
          case rel =>
            refine ⟨k + 1, done, m4, fp4, by omega, by go_num, rfl, (unhide HS4).disk, unhide HG4, ?_, (unhide HP).here, by have := (unhide HP).few; omega, (unhide HS4).bel, (unhide HS4).new⟩
            rw [unhide HM4]
            exact (unhide HP).left
          case measure => simp [intOf]; omega
        · obtain ⟨hE, hg4, hl4, hd4⟩ := hA
          rw [hE]
          have hfew := (unhide HP).few
          have hl9 : ¬ calls < (done : Int) + 1 := by omega
          have HG4 := hide hg4
          have HL4 := hide hl4
          have HD4 := hide hd4
          clear hE hg4 hl4 hd4
          go_wp2_with (go_at_call 20; obtain ⟨fb, lb, ov, hA, _⟩ := (unhide HS4).disk; refine (down_any _ hA).mono ?_; rintro e w5 ⟨rfl, rfl⟩; rw [unhide HG4]; clear hA)
          go_roundw
          case rel =>
            exact ⟨k + 1, done + 1, m4, fp4, by omega, by go_num, by go_num, (unhide HS4).disk, unhide HG4, unhide HL4, unhide HD4, by omega, (unhide HS4).bel, (unhide HS4).new⟩
          case measure => simp [intOf]; omega
      · by_cases hk1 : ck = 1
        · subst hk1
          have hnx := pow_flush (unhide HP).gone (unhide HP).left (unhide HP).here
          have HNX := hide hnx
          have hSa : ∀ o, Stp W (wr.alloc o) d m k fp := fun o => Stp.grow ⟨(unhide HP).disk, (unhide HP).bel, (unhide HP).new⟩ ((Below.refl _ _).alloc (Nat.le_refl _) _)
          have HSA := hide hSa
          clear hSa hnx
          go_wp2_with fail
          refine (flush_any _ _ (unhide HSA _).disk (by omega)).mono ?_
          rintro e w4 ⟨rfl, ht4⟩
          obtain ⟨fp4, hS4⟩ := (unhide HSA _).turn ht4
          have HS4 := hide (hS4.mono (Nat.le_succ k))
          have hnx := unhide HNX
          clear ht4 hS4 HNX HSA c0 c1 c2 c3 c4 c5
          generalize flushM m = m4 at *
          generalize flushE m = E4 at *
          rcases hnx with hA | hA | hA
          · obtain ⟨hE, hg4, rfl⟩ := hA
            rw [hE]
            have HG4 := hide hg4
            have hl9 : ¬ (done : Int) < (done : Int) := Int.lt_irrefl _
            clear hE hg4
            go_wp2_with (first
              | (go_at_call 20; obtain ⟨fb, lb, ov, hA, _⟩ := (unhide HS4).disk; refine (down_any _ hA).mono ?_; rintro e w5 ⟨rfl, rfl⟩; rw [unhide HG4]; clear hA)
              | (go_at_call 15; obtain ⟨fb, lb, ov, hA, _⟩ := (unhide HS4).disk; refine (read_any 0 _ hA).mono ?_; rintro e w6 ⟨rfl, hb6⟩; rw [gone_read (unhide HG4)]; have HS6 := hide ((unhide HS4).grow hb6); clear hb6 hA)
              | (go_at_call 17; refine (data_any 1 1 _).mono ?_; rintro e w7 ⟨rfl, hb7⟩; have HS7 := hide ((unhide HS6).grow hb7); clear hb7)
              | (go_at_call 16; refine (write_any 0 _ _ _ (unhide HS7).disk (by omega)).mono ?_; rintro e w8 ⟨rfl, ht8⟩; rw [(gone_write (unhide HG4) _ _).1]; rw [(gone_write (unhide HG4) _ _).2] at ht8; obtain ⟨fp8, hS8⟩ := (unhide HS7).turn ht8; have HS8 := hide hS8; clear ht8 hS8)
              | (go_at_call 22; refine (flush_any _ _ (unhide HS8).disk (by omega)).mono ?_; rintro e w9 ⟨rfl, ht9⟩; rw [(gone_flush (unhide HG4)).1]; rw [(gone_flush (unhide HG4)).2] at ht9; obtain ⟨fp9, hS9⟩ := (unhide HS8).turn ht9; have HS9 := hide hS9; clear ht9 hS9)
              | (go_at_call 19; obtain ⟨fb, lb, ov, hA, _⟩ := (unhide HS9).disk; refine (open_any _ hA).mono ?_; rintro e w10 ⟨rfl, rfl⟩; clear hA)
              | (go_at_call 19; obtain ⟨fb, lb, ov, hA, _⟩ := (unhide HS6).disk; refine (open_any _ hA).mono ?_; rintro e w11 ⟨rfl, rfl⟩; clear hA))
            go_ret
            exact ⟨rfl, (unhide HS9).bel⟩
          · obtain ⟨hE, hm4⟩ := hA
            rw [hE]
            have hg4 : m4.gone = false := by rw [hm4]; exact (unhide HP).gone
            have hl9 : ¬ calls < (done : Int) := by have := (unhide HP).here; omega
            have HG4 := hide hg4
            have HM4 := hide hm4
            clear hE hg4 hm4
            go_wp2_with (go_at_call 20; obtain ⟨fb, lb, ov, hA, _⟩ := (unhide HS4).disk; refine (down_any _ hA).mono ?_; rintro e w5 ⟨rfl, rfl⟩; rw [unhide HG4]; clear hA)
            go_roundw
            case rel =>
              refine ⟨k + 1, done, m4, fp4, by omega, by go_num, rfl, (unhide HS4).disk, unhide HG4, ?_, (unhide HP).here, by have := (unhide HP).few; omega, (unhide HS4).bel, (unhide HS4).new⟩
              rw [unhide HM4]
              exact (unhide HP).left
            case measure => simp [intOf]; omega
          · obtain ⟨hE, hg4, hl4, hd4⟩ := hA
            rw [hE]
            have hfew := (unhide HP).few
            have hl9 : ¬ calls < (done : Int) + 1 := by omega
            have HG4 := hide hg4
            have HL4 := hide hl4
            have HD4 := hide hd4
            clear hE hg4 hl4 hd4
            go_wp2_with (go_at_call 20; obtain ⟨fb, lb, ov, hA, _⟩ := (unhide HS4).disk; refine (down_any _ hA).mono ?_; rintro e w5 ⟨rfl, rfl⟩; rw [unhide HG4]; clear hA)
            go_roundw
            case rel =>
              exact ⟨k + 1, done + 1, m4, fp4, by omega, by go_num, by go_num, (unhide HS4).disk, unhide HG4, unhide HL4, unhide HD4, by omega, (unhide HS4).bel, (unhide HS4).new⟩
            case measure => simp [intOf]; omega
        · go_wp2
          go_roundw
          case rel =>
            have hP := unhide HP
            have hSt : ∀ o, Stp W (wr.alloc o) d m k fp := fun o => Stp.grow ⟨hP.disk, hP.bel, hP.new⟩ ((Below.refl _ _).alloc (Nat.le_refl _) _)
            exact ⟨k + 1, done, m, fp, by omega, by go_num, rfl, (hSt _).disk.mono (Nat.le_succ k), hP.gone, hP.left, hP.here, by omega, (hSt _).bel, hP.new⟩
          case measure => simp [intOf]; omega
    · have hlt' : ¬ (k : Int) < (len : Int) := by omega
      have hle := (unhide HP).here
      have hk6 : k < 121 := by omega
      go_wp2
      go_ret
      exact ⟨rfl, (unhide HP).bel⟩
end Go.Proofs.Ytmkmebogfcbphaa
