/- The law's 'step': a call on both sides. -/
import Derived.Test.YtmkmebogfcbphaaPair
namespace Go.Proofs.Ytmkmebogfcbphaa
open Go.ChangeShapes Go.WideShapes Go.ChangeAt Go.RowKit

variable {W w : World} {d r : Nat} {m : Dk} {k : Nat} {fp rp : List Nat}

/-- both sides went on alike -/
def Both (W w' : World) (e : Ending) (m' : Dk) (k : Nat) : Prop := ∃ d' r' fp' rp', e = .returned (.tuple #[.pointer (some ⟨d', 0, none⟩), .pointer (some ⟨r', 0, none⟩), .bool true]) ∧ Pair W w' d' r' m' m' (k + 1) fp' rp'
/-- a call as a value -/
def clV (ck cn cc : Int) (ca cb : Nat) (v : Value) : Value := .agg #[.int .i64 ck, .int .i64 cn, .int .i64 cc, .int .u8 (ca : Int), .int .u8 (cb : Int), v]
set_option maxHeartbeats 4000000 in
set_option maxRecDepth 20000 in
theorem step_write (cn cc : Int) (ca cb : Nat) (av : Option Addr) (vl vc : Nat) (h : Pair W w d r m m k fp rp) (hk : k ≤ 100000) (hpos : 0 < m.old.length) :
    Calls Try.prog 12 #[.pointer (some ⟨d, 0, none⟩), .pointer (some ⟨r, 0, none⟩), clV 0 cn cc ca cb (.slice av vl vc)] w fun e w' => Both W w' e (writeM m cn (dataS ca cb)) k := by
  have hfew := h.s.disk.few
  have hfew2 : m.op.length ≤ 1000000 := by omega
  have HF := hide hfew2
  have HK := hide hk
  have HPOS := hide hpos
  have HP0 : Hid (Pair W (w.alloc (.cells #[.int .i64 (0), .int .i64 cn, .int .i64 cc, .int .u8 (ca : Int), .int .u8 (cb : Int), .slice av vl vc] 36)) d r m m k fp rp) := h.grow ((Below.refl _ _).alloc (Nat.le_refl _) _)
  have HN1 : Hid (w.heap.size ∉ fp) := fun hx => by have := h.s.disk.lt _ hx; omega
  have HN2 : Hid (w.heap.size ∉ rp) := fun hx => by have := h.ref.lt _ hx; omega
  clear hfew hfew2 h hpos
  unfold clV
  go_enter Try.func12, Try.ntmps12
  go_wp2_with fail
  have q1 : (w.alloc (.cells #[.int .i64 (0), .int .i64 cn, .int .i64 cc, .int .u8 (ca : Int), .int .u8 (cb : Int), .slice av vl vc] 36)).cell? ⟨w.heap.size, 1, none⟩ = some (.int .i64 cn) := by simp
  have q3 : (w.alloc (.cells #[.int .i64 (0), .int .i64 cn, .int .i64 cc, .int .u8 (ca : Int), .int .u8 (cb : Int), .slice av vl vc] 36)).cell? ⟨w.heap.size, 3, none⟩ = some (.int .u8 (ca : Int)) := by simp
  have q4 : (w.alloc (.cells #[.int .i64 (0), .int .i64 cn, .int .i64 cc, .int .u8 (ca : Int), .int .u8 (cb : Int), .slice av vl vc] 36)).cell? ⟨w.heap.size, 4, none⟩ = some (.int .u8 (cb : Int)) := by simp
  have HPL : Hid (w.heap.size < (w.alloc (.cells #[.int .i64 (0), .int .i64 cn, .int .i64 cc, .int .u8 (ca : Int), .int .u8 (cb : Int), .slice av vl vc] 36)).heap.size) := by show w.heap.size < (w.alloc (.cells #[.int .i64 (0), .int .i64 cn, .int .i64 cc, .int .u8 (ca : Int), .int .u8 (cb : Int), .slice av vl vc] 36)).heap.size; simp
  obtain ⟨p, hp⟩ : ∃ y, y = w.heap.size := ⟨_, rfl⟩
  rw [← hp] at q1 q3 q4 HN1 HN2 HPL ⊢
  clear hp
  generalize w.alloc (.cells #[.int .i64 (0), .int .i64 cn, .int .i64 cc, .int .u8 (ca : Int), .int .u8 (cb : Int), .slice av vl vc] 36) = wa at *
  have HPA : Hid (Pair W wa.drew d r m m k fp rp) := (unhide HP0).grow (Below.refl _ _).drew
  have HPL' : Hid (p < wa.drew.heap.size) := unhide HPL
  have q1' : wa.drew.cell? ⟨p, 1, none⟩ = some (.int .i64 cn) := q1
  have q3' : wa.drew.cell? ⟨p, 3, none⟩ = some (.int .u8 (ca : Int)) := q3
  have q4' : wa.drew.cell? ⟨p, 4, none⟩ = some (.int .u8 (cb : Int)) := q4
  clear q1 q3 q4 HP0 HPL
  go_region_held3 (fun w' => w'.cell? ⟨p, 1, none⟩ = some (.int .i64 cn) ∧ w'.cell? ⟨p, 3, none⟩ = some (.int .u8 (ca : Int)) ∧ w'.cell? ⟨p, 4, none⟩ = some (.int .u8 (cb : Int)))
    (first | assumption | exact ⟨q1', q3', q4'⟩ | exact ⟨y1, y3, y4⟩ | exact ⟨z1, z3, z4⟩ | exact ⟨x1, x3, x4⟩ | exact ⟨t1, t3, t4⟩)
    (first
      | (go_at_call 27; go_split_ands; refine (rwrite_any cn (dataS ca cb) rp _ (unhide HP3).ref (unhide HF)).mono ?_; rintro e w4 ⟨rfl, ht⟩; have hmv := ht.moves; have t1 := hmv.cell x1 (unhide HN2); have t3 := hmv.cell x3 (unhide HN2); have t4 := hmv.cell x4 (unhide HN2); obtain ⟨rp4, hP4⟩ := (unhide HP3).second ht; have HP4 := hide hP4; clear ht hmv hP4)
      | (go_at_call 17; go_split_ands; refine (data_any ca cb w2).mono ?_; rintro e w3 ⟨rfl, hb3⟩; have x1 := (hb3.cell (p := ⟨p, 1, none⟩) (unhide HL2)).trans z1; have x3 := (hb3.cell (p := ⟨p, 3, none⟩) (unhide HL2)).trans z3; have x4 := (hb3.cell (p := ⟨p, 4, none⟩) (unhide HL2)).trans z4; have HP3 := hide ((unhide HP2).grow hb3); clear hb3)
      | (go_at_call 16; go_split_ands; refine (write_any cn (dataS ca cb) fp _ (unhide HP1).s.disk (by have := unhide HK; omega)).mono ?_; rintro e w2 ⟨rfl, ht⟩; have hmv := ht.moves; have z1 := hmv.cell y1 (unhide HN1); have z3 := hmv.cell y3 (unhide HN1); have z4 := hmv.cell y4 (unhide HN1); have HL2 : Hid (p < w2.heap.size) := World.block_lt_of_cell? _ _ z1; obtain ⟨fp2, hP2⟩ := (unhide HP1).first ht; have HP2 := hide hP2; clear ht hmv hP2)
      | (go_at_call 17; go_split_ands; refine (data_any ca cb _).mono ?_; rintro e w1 ⟨rfl, hb1⟩; have y1 := (hb1.cell (p := ⟨p, 1, none⟩) (unhide HPL')).trans q1'; have y3 := (hb1.cell (p := ⟨p, 3, none⟩) (unhide HPL')).trans q3'; have y4 := (hb1.cell (p := ⟨p, 4, none⟩) (unhide HPL')).trans q4'; have HP1 := hide ((unhide HPA).grow hb1); clear hb1))
  generalize writeE m cn (dataS ca cb) = E at *
  go_wp2
  go_ret3
  exact ⟨_, _, _, _, by simp, unhide HP4⟩

set_option maxHeartbeats 4000000 in
set_option maxRecDepth 20000 in
theorem step_flush (cn cc : Int) (ca cb : Nat) (av : Option Addr) (vl vc : Nat) (h : Pair W w d r m m k fp rp) (hk : k ≤ 100000) (hpos : 0 < m.old.length) :
    Calls Try.prog 12 #[.pointer (some ⟨d, 0, none⟩), .pointer (some ⟨r, 0, none⟩), clV 1 cn cc ca cb (.slice av vl vc)] w fun e w' => Both W w' e (flushM m) k := by
  have hfew := h.s.disk.few
  have hfew2 : m.op.length ≤ 1000000 := by omega
  have HF := hide hfew2
  have HK := hide hk
  have HPOS := hide hpos
  have HP0 : Hid (Pair W (w.alloc (.cells #[.int .i64 (1), .int .i64 cn, .int .i64 cc, .int .u8 (ca : Int), .int .u8 (cb : Int), .slice av vl vc] 36)) d r m m k fp rp) := h.grow ((Below.refl _ _).alloc (Nat.le_refl _) _)
  have HN1 : Hid (w.heap.size ∉ fp) := fun hx => by have := h.s.disk.lt _ hx; omega
  have HN2 : Hid (w.heap.size ∉ rp) := fun hx => by have := h.ref.lt _ hx; omega
  clear hfew hfew2 h hpos
  unfold clV
  go_enter Try.func12, Try.ntmps12
  go_wp2_with fail
  refine (flush_any _ _ (unhide HP0).s.disk (by have := unhide HK; omega)).mono ?_
  rintro e w1 ⟨rfl, ht⟩
  obtain ⟨fp1, hP1⟩ := (unhide HP0).first ht
  have HP1 := hide hP1
  clear ht hP1
  go_wp2_with fail
  refine (rflush_any _ _ (unhide HP1).ref (unhide HPOS) (unhide HF)).mono ?_
  rintro e w2 ⟨rfl, ht⟩
  obtain ⟨rp2, hP2⟩ := (unhide HP1).second ht
  have HP2 := hide hP2
  clear ht hP2
  generalize flushE m = E at *
  go_wp2
  go_ret3
  exact ⟨_, _, _, _, by simp, (unhide HP2).mono (Nat.le_succ k)⟩

set_option maxHeartbeats 4000000 in
set_option maxRecDepth 20000 in
theorem step_read (cn cc : Int) (ca cb : Nat) (av : Option Addr) (vl vc : Nat) (h : Pair W w d r m m k fp rp) (hk : k ≤ 100000) (hpos : 0 < m.old.length) :
    Calls Try.prog 12 #[.pointer (some ⟨d, 0, none⟩), .pointer (some ⟨r, 0, none⟩), clV 2 cn cc ca cb (.slice av vl vc)] w fun e w' => Both W w' e (m) k := by
  have hfew := h.s.disk.few
  have hfew2 : m.op.length ≤ 1000000 := by omega
  have HF := hide hfew2
  have HK := hide hk
  have HPOS := hide hpos
  have HP0 : Hid (Pair W (w.alloc (.cells #[.int .i64 (2), .int .i64 cn, .int .i64 cc, .int .u8 (ca : Int), .int .u8 (cb : Int), .slice av vl vc] 36)) d r m m k fp rp) := h.grow ((Below.refl _ _).alloc (Nat.le_refl _) _)
  have HN1 : Hid (w.heap.size ∉ fp) := fun hx => by have := h.s.disk.lt _ hx; omega
  have HN2 : Hid (w.heap.size ∉ rp) := fun hx => by have := h.ref.lt _ hx; omega
  clear hfew hfew2 h hpos
  unfold clV
  go_enter Try.func12, Try.ntmps12
  go_wp2_with fail
  obtain ⟨fb, lb, ov, hA, _⟩ := (unhide HP0).s.disk
  refine (read_any cn _ hA).mono ?_
  rintro e w1 ⟨rfl, hb1⟩
  have q1 : w1.cell? ⟨w.heap.size, 1, none⟩ = some (.int .i64 cn) := (hb1.cell (p := ⟨w.heap.size, 1, none⟩) (by simp)).trans (by simp)
  have HP1 := hide ((unhide HP0).grow hb1)
  clear hb1 hA
  go_wp2_with fail
  obtain ⟨ov, pv, hR, _⟩ := (unhide HP1).ref
  refine (rread_any cn _ hR (unhide HF)).mono ?_
  rintro e w2 ⟨rfl, rfl⟩
  generalize (readM m cn).1 = R1 at *
  generalize (readM m cn).2 = R2 at *
  clear hR
  go_wp2
  go_ret3
  exact ⟨_, _, _, _, by simp, (unhide HP1).mono (Nat.le_succ k)⟩

set_option maxHeartbeats 4000000 in
set_option maxRecDepth 20000 in
theorem step_power (cn cc : Int) (ca cb : Nat) (av : Option Addr) (vl vc : Nat) (h : Pair W w d r m m k fp rp) (hk : k ≤ 100000) (hpos : 0 < m.old.length) (hcn : cn ≤ 9223372036854775807) :
    Calls Try.prog 12 #[.pointer (some ⟨d, 0, none⟩), .pointer (some ⟨r, 0, none⟩), clV 3 cn cc ca cb (.slice av vl vc)] w fun e w' => Both W w' e (powerM m cn) k := by
  have hfew := h.s.disk.few
  have hfew2 : m.op.length ≤ 1000000 := by omega
  have HF := hide hfew2
  have HK := hide hk
  have HPOS := hide hpos
  have HP0 : Hid (Pair W (w.alloc (.cells #[.int .i64 (3), .int .i64 cn, .int .i64 cc, .int .u8 (ca : Int), .int .u8 (cb : Int), .slice av vl vc] 36)) d r m m k fp rp) := h.grow ((Below.refl _ _).alloc (Nat.le_refl _) _)
  have HN1 : Hid (w.heap.size ∉ fp) := fun hx => by have := h.s.disk.lt _ hx; omega
  have HN2 : Hid (w.heap.size ∉ rp) := fun hx => by have := h.ref.lt _ hx; omega
  have HCN := hide hcn
  clear hfew hfew2 h hpos hcn
  unfold clV
  go_enter Try.func12, Try.ntmps12
  go_wp2_with fail
  refine (power_any cn (unhide HCN) _ _ (unhide HP0).s.disk).mono ?_
  rintro e w1 ⟨rfl, ht⟩
  have q1 : w1.cell? ⟨w.heap.size, 1, none⟩ = some (.int .i64 cn) := ht.moves.cell (v := .int .i64 cn) (by simp) (unhide HN1)
  obtain ⟨fp1, hP1⟩ := (unhide HP0).first ht
  have HP1 := hide hP1
  clear ht hP1
  go_wp2_with fail
  refine (rpower_any cn (unhide HCN) _ _ (unhide HP1).ref).mono ?_
  rintro e w2 ⟨rfl, ht⟩
  obtain ⟨rp2, hP2⟩ := (unhide HP1).second ht
  have HP2 := hide hP2
  clear ht hP2
  go_wp2
  go_ret3
  exact ⟨_, _, _, _, rfl, (unhide HP2).mono (Nat.le_succ k)⟩

set_option maxHeartbeats 4000000 in
set_option maxRecDepth 20000 in
theorem step_copy (cn cc : Int) (ca cb : Nat) (av : Option Addr) (vl vc : Nat) (h : Pair W w d r m m k fp rp) (hk : k ≤ 100000) (hpos : 0 < m.old.length) :
    Calls Try.prog 12 #[.pointer (some ⟨d, 0, none⟩), .pointer (some ⟨r, 0, none⟩), clV 5 cn cc ca cb (.slice av vl vc)] w fun e w' => Both W w' e (m) k := by
  have hfew := h.s.disk.few
  have hfew2 : m.op.length ≤ 1000000 := by omega
  have HF := hide hfew2
  have HK := hide hk
  have HPOS := hide hpos
  have HP0 : Hid (Pair W (w.alloc (.cells #[.int .i64 (5), .int .i64 cn, .int .i64 cc, .int .u8 (ca : Int), .int .u8 (cb : Int), .slice av vl vc] 36)) d r m m k fp rp) := h.grow ((Below.refl _ _).alloc (Nat.le_refl _) _)
  have HN1 : Hid (w.heap.size ∉ fp) := fun hx => by have := h.s.disk.lt _ hx; omega
  have HN2 : Hid (w.heap.size ∉ rp) := fun hx => by have := h.ref.lt _ hx; omega
  clear hfew hfew2 h hpos
  unfold clV
  go_enter Try.func12, Try.ntmps12
  go_wp2_with fail
  refine (copy_any _ _ (unhide HP0).s.disk (by have := unhide HK; omega)).mono ?_
  rintro e w1 ⟨d1, fp1, rfl, hI1, hb1, hx1⟩
  have HQ1 := hide (And.intro hI1 (And.intro hb1 hx1))
  have HP1 := hide ((unhide HP0).grow hb1)
  clear hI1 hb1 hx1
  go_wp2_with fail
  refine (rcopy_any _ _ (unhide HP1).ref (unhide HF)).mono ?_
  rintro e w2 ⟨r2, rp2, rfl, hI2, hb2, hx2⟩
  have hP2 := Pair.fresh (unhide HP0).s.bel (unhide HQ1).1 (unhide HQ1).2.1 (unhide HQ1).2.2 hI2 hb2 hx2
  have HP2 := hide hP2
  clear hI2 hb2 hx2 hP2
  go_wp2
  go_ret3
  exact ⟨_, _, _, _, rfl, (unhide HP2).mono (Nat.le_succ k)⟩
end Go.Proofs.Ytmkmebogfcbphaa
