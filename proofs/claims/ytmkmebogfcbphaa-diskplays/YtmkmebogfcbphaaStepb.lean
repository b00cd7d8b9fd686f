/- The law's 'step': a crash, and a write that may be cut. -/
import Derived.Test.YtmkmebogfcbphaaStep
namespace Go.Proofs.Ytmkmebogfcbphaa
open Go.ChangeShapes Go.WideShapes Go.ChangeAt Go.RowKit

variable {W w : World} {d r : Nat} {m : Dk} {k : Nat} {fp rp : List Nat}

set_option maxHeartbeats 4000000 in
set_option maxRecDepth 20000 in
theorem step_crash (cn cc : Int) (ca cb : Nat) (av : Option Addr) (vl vc : Nat) (h : Pair W w d r m m k fp rp) (hk : k ≤ 100000) (hpos : 0 < m.old.length) (fs : List Int) (hv : IsInts w (.slice av vl vc) fs) :
    Calls Try.prog 12 #[.pointer (some ⟨d, 0, none⟩), .pointer (some ⟨r, 0, none⟩), clV 4 cn cc ca cb (.slice av vl vc)] w fun e w' => Both W w' e (crashM m fs) k := by
  have hfew := h.s.disk.few
  have hfew2 : m.op.length ≤ 1000000 := by omega
  have HF := hide hfew2
  have HK := hide hk
  have HPOS := hide hpos
  have HP0 : Hid (Pair W (w.alloc (.cells #[.int .i64 (4), .int .i64 cn, .int .i64 cc, .int .u8 (ca : Int), .int .u8 (cb : Int), .slice av vl vc] 36)) d r m m k fp rp) := h.grow ((Below.refl _ _).alloc (Nat.le_refl _) _)
  have HN1 : Hid (w.heap.size ∉ fp) := fun hx => by have := h.s.disk.lt _ hx; omega
  have HN2 : Hid (w.heap.size ∉ rp) := fun hx => by have := h.ref.lt _ hx; omega
  have HV : Hid (IsInts (w.alloc (.cells #[.int .i64 (4), .int .i64 cn, .int .i64 cc, .int .u8 (ca : Int), .int .u8 (cb : Int), .slice av vl vc] 36)) (.slice av vl vc) fs) := hv.grow ((Below.refl _ _).alloc (Nat.le_refl _) _) (Nat.le_refl _)
  clear hfew hfew2 h hpos hv
  unfold clV
  go_enter Try.func12, Try.ntmps12
  go_wp2_with fail
  have q5 : (w.alloc (.cells #[.int .i64 (4), .int .i64 cn, .int .i64 cc, .int .u8 (ca : Int), .int .u8 (cb : Int), .slice av vl vc] 36)).cell? ⟨w.heap.size, 5, none⟩ = some (.slice av vl vc) := by simp
  have HPL : Hid (w.heap.size < (w.alloc (.cells #[.int .i64 (4), .int .i64 cn, .int .i64 cc, .int .u8 (ca : Int), .int .u8 (cb : Int), .slice av vl vc] 36)).heap.size) := by show w.heap.size < (w.alloc (.cells #[.int .i64 (4), .int .i64 cn, .int .i64 cc, .int .u8 (ca : Int), .int .u8 (cb : Int), .slice av vl vc] 36)).heap.size; simp
  obtain ⟨p, hp⟩ : ∃ y, y = w.heap.size := ⟨_, rfl⟩
  rw [← hp] at q5 HN1 HN2 HPL ⊢
  clear hp
  generalize w.alloc (.cells #[.int .i64 (4), .int .i64 cn, .int .i64 cc, .int .u8 (ca : Int), .int .u8 (cb : Int), .slice av vl vc] 36) = wa at *
  have HPA : Hid (Pair W wa.drew d r m m k fp rp) := (unhide HP0).grow (Below.refl _ _).drew
  have HPL' : Hid (p < wa.drew.heap.size) := unhide HPL
  have HVA : Hid (IsInts wa.drew (.slice av vl vc) fs) := (unhide HV).grow (Below.refl wa.heap.size wa).drew (Nat.le_refl _)
  have q5' : wa.drew.cell? ⟨p, 5, none⟩ = some (.slice av vl vc) := q5
  clear q5 HP0 HPL HV
  go_region_held3 (fun w' => w'.cell? ⟨p, 5, none⟩ = some (.slice av vl vc))
    (first | assumption | exact q5' | exact y5 | exact z5)
    (first
      | (go_at_call 18; refine (crash_any fs _ _ _ (unhide HPA).s.disk (unhide HVA) (by have := unhide HK; omega)).mono ?_; rintro e w1 ⟨d1, fp1, rfl, hI1, hb1, hx1⟩; have y5 := (hb1.cell (p := ⟨p, 5, none⟩) (unhide HPL')).trans q5'; have HL1 : Hid (p < w1.heap.size) := World.block_lt_of_cell? _ _ y5; have HV1 := hide ((unhide HVA).grow hb1 (Nat.le_refl _)); have HQ1 := hide (And.intro hI1 (And.intro hb1 hx1)); have HP1 := hide ((unhide HPA).grow hb1); clear hI1 hb1 hx1)
      | (go_at_call 31; refine (rcrash_any fs _ _ _ (unhide HP1).ref (unhide HV1) (unhide HPOS) (unhide HF)).mono ?_; rintro e w2 ⟨r2, rp2, rfl, hI2, hb2, hx2⟩; have z5 := (hb2.cell (p := ⟨p, 5, none⟩) (unhide HL1)).trans y5; have hP2 := Pair.fresh (unhide HPA).s.bel (unhide HQ1).1 (unhide HQ1).2.1 (unhide HQ1).2.2 hI2 hb2 hx2; have HP2 := hide hP2; clear hI2 hb2 hx2 hP2))
  go_wp2
  go_ret3
  exact ⟨_, _, _, _, rfl, (unhide HP2).mono (Nat.le_succ k)⟩

set_option maxHeartbeats 4000000 in
set_option maxRecDepth 20000 in
theorem step_cut (cn cc : Int) (ca cb : Nat) (av : Option Addr) (vl vc : Nat) (h : Pair W w d r m m k fp rp) (hk : k ≤ 100000) (hpos : 0 < m.old.length) (ck : Int) (h0 : ck ≠ 0) (h1 : ck ≠ 1) (h2 : ck ≠ 2) (h3 : ck ≠ 3) (h4 : ck ≠ 4) (h5 : ck ≠ 5) (hcc : -9223372036854775808 ≤ cc ∧ cc ≤ 9223372036854775807) :
    Calls Try.prog 12 #[.pointer (some ⟨d, 0, none⟩), .pointer (some ⟨r, 0, none⟩), clV ck cn cc ca cb (.slice av vl vc)] w fun e w' => Both W w' e (writeM m cn (cutS cc)) k := by
  have hfew := h.s.disk.few
  have hfew2 : m.op.length ≤ 1000000 := by omega
  have HF := hide hfew2
  have HK := hide hk
  have HPOS := hide hpos
  have HP0 : Hid (Pair W (w.alloc (.cells #[.int .i64 (ck), .int .i64 cn, .int .i64 cc, .int .u8 (ca : Int), .int .u8 (cb : Int), .slice av vl vc] 36)) d r m m k fp rp) := h.grow ((Below.refl _ _).alloc (Nat.le_refl _) _)
  have HN1 : Hid (w.heap.size ∉ fp) := fun hx => by have := h.s.disk.lt _ hx; omega
  have HN2 : Hid (w.heap.size ∉ rp) := fun hx => by have := h.ref.lt _ hx; omega
  clear hfew hfew2 h hpos
  unfold clV
  go_enter Try.func12, Try.ntmps12
  obtain ⟨L, hL⟩ : ∃ L : Nat, L = (min (max cc 0) 2000).toNat := ⟨_, rfl⟩
  have hmm : min (max cc 0) 2000 = (L : Int) := by omega
  have hL2 : L ≤ 2000 := by omega
  have hS : cutS cc = strOf (List.replicate L 0) := by unfold cutS; rw [← hL]
  obtain ⟨D, hD⟩ : ∃ D, D = strOf (List.replicate L 0) := ⟨_, rfl⟩
  rw [hS, ← hD]
  have HD := hide hD
  clear hD
  have hsz : ∀ o, (w.alloc o).heap.size = w.heap.size + 1 := fun o => by simp
  have HCC := hide hcc
  clear hL hS hcc
  go_wp2_with (first
    | (refine make_zeros (n := L) rfl _ _ rfl rfl rfl (by first | rfl | exact hmm) (by omega) ?_; intro w1 hown hb; have hcv := conv_own hown; rw [hsz, ← unhide HD] at hcv; have q1 : w1.cell? ⟨w.heap.size, 1, none⟩ = some (.int .i64 cn) := (hb.cell (p := ⟨w.heap.size, 1, none⟩) (by simp)).trans (by simp); have HL1 : Hid (w.heap.size < w1.heap.size) := World.block_lt_of_cell? _ _ q1; have HP1 := hide ((unhide HP0).grow hb); clear hown hb)
    | go_in)
  obtain ⟨p, hp⟩ : ∃ y, y = w.heap.size := ⟨_, rfl⟩
  rw [← hp] at q1 HN1 HN2 HL1 ⊢
  clear hp hcv HP0
  have HPA : Hid (Pair W w1.drew d r m m k fp rp) := (unhide HP1).grow (Below.refl _ _).drew
  have q1' : w1.drew.cell? ⟨p, 1, none⟩ = some (.int .i64 cn) := q1
  clear q1
  go_region_held3 (fun w' => w'.cell? ⟨p, 1, none⟩ = some (.int .i64 cn))
    (first | assumption | exact q1' | exact y1 | exact z1)
    (first
      | (go_at_call 16; refine (write_any cn D fp _ (unhide HPA).s.disk (by have := unhide HK; omega)).mono ?_; rintro e w2 ⟨rfl, ht⟩; have y1 := ht.moves.cell q1' (unhide HN1); obtain ⟨fp2, hP2⟩ := (unhide HPA).first ht; have HP2 := hide hP2; clear ht hP2)
      | (go_at_call 27; refine (rwrite_any cn D rp _ (unhide HP2).ref (unhide HF)).mono ?_; rintro e w3 ⟨rfl, ht⟩; have z1 := ht.moves.cell y1 (unhide HN2); obtain ⟨rp3, hP3⟩ := (unhide HP2).second ht; have HP3 := hide hP3; clear ht hP3))
  generalize writeE m cn D = E at *
  go_wp2
  go_ret3
  exact ⟨_, _, _, _, by simp, unhide HP3⟩
end Go.Proofs.Ytmkmebogfcbphaa
