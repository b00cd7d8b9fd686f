/- The law DiskPlays. -/
import Derived.Test.YtmkmebogfcbphaaStepb
import Derived.Test.YtmkmebogfcbphaaSame
namespace Go.Proofs.Ytmkmebogfcbphaa
open Go.ChangeShapes Go.WideShapes Go.ChangeAt Go.RowKit

theorem step_any {W w : World} {d r : Nat} {m : Dk} {k : Nat} {fp rp : List Nat} (c : Cl) (av : Option Addr) (vl vc : Nat) (ev : c.v = .slice av vl vc) (h : Pair W w d r m m k fp rp) (hk : k ≤ 100000) (hpos : 0 < m.old.length) (hv : IsInts w c.v c.fs)
    (hn : c.n ≤ 9223372036854775807) (hc : -9223372036854775808 ≤ c.cut ∧ c.cut ≤ 9223372036854775807) :
    Calls Try.prog 12 #[.pointer (some ⟨d, 0, none⟩), .pointer (some ⟨r, 0, none⟩), clV c.k c.n c.cut c.a c.b (.slice av vl vc)] w fun e w' => Both W w' e (stepP m c) k := by
  obtain ⟨ck, cn, cc, ca, cb, cv, fs⟩ := c
  simp only at ev hv hn hc ⊢
  subst ev
  unfold stepP
  simp only
  by_cases h0 : ck = 0
  · subst h0
    rw [if_pos rfl]
    exact step_write cn cc ca cb av vl vc h hk hpos
  rw [if_neg h0]
  by_cases h1 : ck = 1
  · subst h1
    rw [if_pos rfl]
    exact step_flush cn cc ca cb av vl vc h hk hpos
  rw [if_neg h1]
  by_cases h2 : ck = 2
  · subst h2
    rw [if_pos rfl]
    exact step_read cn cc ca cb av vl vc h hk hpos
  rw [if_neg h2]
  by_cases h3 : ck = 3
  · subst h3
    rw [if_pos rfl]
    exact step_power cn cc ca cb av vl vc h hk hpos hn
  rw [if_neg h3]
  by_cases h4 : ck = 4
  · subst h4
    rw [if_pos rfl]
    exact step_crash cn cc ca cb av vl vc h hk hpos fs hv
  rw [if_neg h4]
  by_cases h5 : ck = 5
  · subst h5
    rw [if_pos rfl]
    exact step_copy cn cc ca cb av vl vc h hk hpos
  rw [if_neg h5]
  exact step_cut cn cc ca cb av vl vc h hk hpos ck h0 h1 h2 h3 h4 h5 hc

set_option maxHeartbeats 8000000 in
set_option maxRecDepth 20000 in
theorem plays_walk (f : Nat → Cl) (n : Int) (a : Option Addr) (len cap : Nat) (W : World) (h : IsCalls W a len f) :
    Calls Try.prog 3 #[.int .i64 n, .slice a len cap] W fun e w' => e = .returned (.bool true) ∧ Below W.heap.size W w' := by
  have HI := hide h
  clear h
  go_enter Try.func3, Try.ntmps3
  go_wp2_with (go_at_call 8; refine (awake_any _).mono ?_; rintro e w0 ⟨rfl, hb0⟩; have HB0 := hide hb0; have HI0 := hide ((unhide HI).grow hb0 (Nat.le_refl _)); clear hb0)
  refine (long_any f a len cap w0 (unhide HI0)).mono ?_
  rintro e w' ⟨rfl, rfl | ⟨rfl, hsh⟩⟩
  · go_wp2
    go_ret
    exact ⟨rfl, unhide HB0⟩
  have hlen := hsh.1
  clear hsh
  by_cases hmid : 64 < n ∧ n ≤ 4096
  · have g1 := hmid.1
    have g2 := hmid.2
    clear hmid
    go_wp2
    go_ret
    exact ⟨rfl, unhide HB0⟩
  by_cases hbad : n < 1 ∨ 4096 < n
  · have HBAD := hide hbad
    by_cases g1 : 64 < n
    · have g2 : ¬ n ≤ 4096 := by omega
      clear hmid hbad
      go_wp2_with (first
        | (go_at_call 10; refine (new_bad n _ (unhide HBAD)).mono ?_; rintro e w1 ⟨rfl, rfl⟩)
        | (go_at_call 11; refine (rnew_bad n _ (unhide HBAD)).mono ?_; rintro e w1 ⟨rfl, rfl⟩))
      go_ret
      exact ⟨rfl, unhide HB0⟩
    · clear hmid hbad
      go_wp2_with (first
        | (go_at_call 10; refine (new_bad n _ (unhide HBAD)).mono ?_; rintro e w1 ⟨rfl, rfl⟩)
        | (go_at_call 11; refine (rnew_bad n _ (unhide HBAD)).mono ?_; rintro e w1 ⟨rfl, rfl⟩))
      go_ret
      exact ⟨rfl, unhide HB0⟩
  obtain ⟨N, rfl⟩ : ∃ N : Nat, n = (N : Int) := ⟨n.toNat, by omega⟩
  have g1 : ¬ 64 < (N : Int) := by omega
  have hN1 : 1 ≤ N := by omega
  have hN2 : N ≤ 64 := by omega
  clear hmid hbad
  go_wp2_with fail
  refine (new_any (N : Int) _ (by omega) (by omega)).mono ?_
  rintro e w1 ⟨d, fp, rfl, hI1, hb1, hx1⟩
  rw [Int.toNat_natCast] at hI1
  have HQ1 := hide (And.intro hI1 (And.intro hb1 hx1))
  clear hI1 hb1 hx1
  go_wp2_with fail
  refine (rnew_any N _ hN1 (by omega)).mono ?_
  rintro e w2 ⟨r, rp, rfl, hI2, hb2, hx2⟩
  have hP := Pair.fresh (unhide HB0) (unhide HQ1).1 (unhide HQ1).2.1 (unhide HQ1).2.2 hI2 hb2 hx2
  have HP := hide hP
  have hpos0 : 0 < (newM N).old.length := by show 0 < (List.replicate N zeros).length; rw [List.length_replicate]; omega
  have HPOS := hide hpos0
  clear hI2 hb2 hx2 hP HQ1 hpos0
  generalize newM N = m0 at *
  go_wp2_with fail
  go_loopw [5, 7, 9] (fun s t j wr => ∃ (k d r : Nat) (m : Dk) (fp rp : List Nat), k ≤ len ∧ j = .int .i64 (k : Int) ∧ s = .pointer (some ⟨d, 0, none⟩) ∧ t = .pointer (some ⟨r, 0, none⟩) ∧ Pair W wr d r m m k fp rp ∧ 0 < m.old.length) (fun _ _ j _ => len - (intOf j).toNat)
  case atStart => exact ⟨0, _, _, _, _, _, Nat.zero_le _, rfl, rfl, rfl, unhide HP, unhide HPOS⟩
  case round =>
    clear HP HPOS
    obtain ⟨k, d, r, m, fp, rp, hk, rfl, rfl, rfl, hP, hpos⟩ := hrel
    have HP := hide hP
    have HPOS := hide hpos
    clear hP hpos
    have hk6 : k < 121 := by omega
    by_cases hlt : k < len
    · have hlt' : (k : Int) < (len : Int) := by omega
      obtain ⟨_, h0 | ⟨b, off, rfl, hc⟩⟩ := unhide HI
      · omega
      have hck := (hc k hlt).grow (unhide HP).s.bel (Nat.le_refl _)
      obtain ⟨av, capv, ev, _⟩ := id hck.ints
      have hst := step_any (f k) av _ capv ev (unhide HP) (by omega) (unhide HPOS) hck.ints hck.bn.2 hck.bc
      have hln := stepP_length m (f k)
      unfold clV at hst
      have c0 := hck.c0
      have c1 := hck.c1
      have c2 := hck.c2
      have c3 := hck.c3
      have c4 := hck.c4
      have c5 := hck.c5
      rw [ev] at c5
      have HST := hide hst
      have HLN := hide hln
      clear hc hck ev hst hln
      generalize stepP m (f k) = m' at *
      generalize (f k).k = ck at *
      generalize (f k).n = cn at *
      generalize (f k).cut = cc at *
      generalize (f k).a = ca at *
      generalize (f k).b = cb at *
      generalize (f k).fs.length = lv at *
      go_wp2_with fail
      refine (unhide HST).mono ?_
      rintro e w3 ⟨d', r', fp', rp', rfl, hP'⟩
      have HP' := hide hP'
      have HPOS' : Hid (0 < m'.old.length) := by have := unhide HLN; have := unhide HPOS; show 0 < m'.old.length; omega
      clear hP'
      go_wp2_with fail
      refine (same_any W _ (unhide HP') (by omega)).mono ?_
      rintro e w4 ⟨rfl, hb4⟩
      have HP4 := hide ((unhide HP').grow hb4)
      clear hb4
      go_wp2
      go_roundw
      case rel => exact ⟨k + 1, d', r', m', fp', rp', by omega, by go_num, rfl, rfl, unhide HP4, unhide HPOS'⟩
      case measure => simp [intOf]; omega
    · have hlt' : ¬ (k : Int) < (len : Int) := by omega
      go_wp2_with fail
      refine (same_any W _ (unhide HP) (by omega)).mono ?_
      rintro e w4 ⟨rfl, hb4⟩
      have HB4 := hide ((unhide HP).s.bel.trans (hb4.mono (unhide HP).s.bel.size))
      clear hb4
      go_wp2
      go_ret
      exact ⟨rfl, unhide HB4⟩
end Go.Proofs.Ytmkmebogfcbphaa
