/- Crash: what is left of a disk. -/
import Derived.Test.YtmkmebogfcbphaaCopy
namespace Go.Proofs.Ytmkmebogfcbphaa
open Go.ChangeShapes Go.WideShapes Go.ChangeAt Go.RowKit Go.Maps

/-- a slice that has these numbers -/
def IsInts (w : World) (v : Value) (fs : List Int) : Prop :=
  ∃ a cap, v = .slice a fs.length cap ∧ (fs = [] ∨ ∃ b off, a = some ⟨b, off, none⟩ ∧ b < w.heap.size ∧ ∀ i, i < fs.length → w.cell? ⟨b, off + i, none⟩ = some (.int .i64 (fs.getD i 0)))
theorem IsInts.grow {w w' : World} {v : Value} {fs : List Int} {B : Nat} (h : IsInts w v fs) (hb : Below B w w') (hB : w.heap.size ≤ B) : IsInts w' v fs := by
  obtain ⟨a, cap, e, h⟩ := h
  refine ⟨a, cap, e, ?_⟩
  rcases h with h | ⟨b, off, e, hlt, hc⟩
  · exact .inl h
  · exact .inr ⟨b, off, e, Nat.lt_of_lt_of_le hlt hb.size, fun i hi => (hb.cell (p := ⟨b, off + i, none⟩) (by show b < B; omega)).trans (hc i hi)⟩

variable {d : Nat} {m : Dk} {c fb lb : Nat} {ov : Value}

theorem crash_step (old : List ByteArray) (op : List (Nat × ByteArray)) (fs : List Int) (k : Nat) (h1 : k < op.length) (h2 : k < fs.length) (G : Nat → Option ByteArray) (hx : op[k].1 < old.length)
    (hG : ∀ i, i < old.length → (G i).getD zeros = (crashL old ((op.zip fs).take k)).getD i ByteArray.empty) :
    ∀ i, i < old.length → (put G op[k].1 (tear ((G op[k].1).getD zeros) op[k].2 (fs.getD k 0)) i).getD zeros = (crashL old ((op.zip fs).take (k + 1))).getD i ByteArray.empty := by
  intro i hi
  have ef : fs.getD k 0 = fs[k] := by rw [List.getD_eq_getElem?_getD, List.getElem?_eq_getElem h2]; rfl
  rw [ef, crash_take _ _ _ _ h1 h2, List.getD_eq_getElem?_getD (l := List.set _ _ _), List.getElem?_set]
  unfold put
  by_cases e : i = op[k].1
  · rw [if_pos e, if_pos e.symm, if_pos (by rw [crashL_length]; omega)]
    show tear _ _ _ = tear _ _ _
    rw [hG _ hx]
  · rw [if_neg e, if_neg (fun e' => e e'.symm), hG i hi, List.getD_eq_getElem?_getD]

theorem lasting_nat (b k : Nat) (f : Nat → Option ByteArray) (n : Nat) (w : World) (h : Sec w b k f) (h1 : n < 4096) :
    Calls Try.prog 35 #[.map (some b), .int .i64 (n : Int)] w fun e w' => e = .returned (.string ((f n).getD zeros)) ∧ Below w.heap.size w w' := by
  have := lasting_any b k f (n : Int) w h (by omega) (by omega)
  rw [Int.toNat_natCast] at this
  exact this
theorem Sec.store_nat {w : World} {b k : Nat} {f : Nat → Option ByteArray} (h : Sec w b k f) {n : Nat} (h1 : n < 4096) (s : ByteArray) (hs : s.size ≤ maxLen) (hk : k < maxLen) :
    ∃ w', (Instr.mapUpdate 55 (.map (some b)) (.int .i64 (n : Int)) (.agg #[.string s])).run Try.prog w = .ok () w' ∧ Sec w' b (k + 1) (put f n s) ∧ w.grownBy w' (some b) := by
  have := h.store (n := (n : Int)) (by omega) (by omega) s hs hk
  rw [Int.toNat_natCast] at this
  exact this

theorem run_min (a b : Nat) : min (a : Int) (b : Int) = ((min a b : Nat) : Int) := by omega

set_option maxHeartbeats 4000000 in
set_option maxRecDepth 20000 in
theorem crash_main (fs : List Int) (v : Value) (g cap : Nat) (w : World) (h : DiskAt w d m c fb lb (.slice (some ⟨g, 0, none⟩) m.op.length cap)) (hv : IsInts w v fs) (hc : c ≤ 1000000) :
    Calls Try.prog 18 #[.pointer (some ⟨d, 0, none⟩), v] w fun e w' => ∃ d' fp', e = .returned (.pointer (some ⟨d', 0, none⟩)) ∧ IsDisk w' d' (crashM m fs) c fp' ∧ Below w.heap.size w w' ∧ ∀ x ∈ fp', w.heap.size ≤ x := by
  obtain ⟨F, nf, hF, hnf, hFw⟩ := h.fl
  have hok := h.ok
  obtain ⟨af, capf, rfl, hfs⟩ := hv
  have c0 := h.cell0
  have c2 := h.cell2
  have c4 := h.cell4
  have hdlt := h.dlt
  have hmn := run_min m.op.length fs.length
  obtain ⟨t, ht⟩ : ∃ t, t = min m.op.length fs.length := ⟨_, rfl⟩
  rw [← ht] at hmn
  have ht1 : t ≤ m.op.length := by omega
  have ht2 : (t : Int) ≤ (cap : Int) := by
    rcases h.op.2 with ⟨e, _⟩ | ⟨g', cap', cur, e, _, _, hcc, _⟩
    · cases e
    · cases e
      omega
  have hgl : g < w.heap.size := (h.op.lt g rfl).2
  have hcell : ∀ k, k < m.op.length → ∀ (hk : k < m.op.length), w.cell? ⟨g, k * 2, none⟩ = some (.int .i64 (m.op[k].1 : Int)) ∧ w.cell? ⟨g, k * 2 + 1, none⟩ = some (.string m.op[k].2) := by
    intro k _ hk
    have h1 := h.op.cells (g := g) rfl (k * 2) _ (opCells_at m.op k hk).1
    have h2 := h.op.cells (g := g) rfl (k * 2 + 1) _ (opCells_at m.op k hk).2
    rw [Go.WideShapes.add_plain, Nat.zero_add] at h1 h2
    exact ⟨h1, h2⟩
  have HF := hide hF
  have HN := hide hnf
  have HFW := hide hFw
  have HOK := hide hok
  have HC := hide hc
  have HT := hide ht
  have HFS := hide hfs
  have HCELL := hide hcell
  have HGL := hide hgl
  have HDL := hide hdlt
  have C0 := hide c0
  clear h hF hnf hFw hok hc ht hfs hcell hgl hdlt
  go_enter Try.func18, Try.ntmps18
  go_wp2_with (go_at_call 38; refine (mclone_any fb nf F _ (unhide HF)).mono ?_; rintro e w1 ⟨rfl, hS1, hb1, hz1⟩; have k0 := (hb1.cell (unhide HDL)).trans c0; have k2 := (hb1.cell (unhide HDL)).trans c2; have k4 := (hb1.cell (unhide HDL)).trans c4; have HS1 := hide hS1; have HB1 := hide hb1; clear hS1 hb1 hz1 c0 c2 c4)
  go_loopw [31] (fun j wr => ∃ (k : Nat) (G : Nat → Option ByteArray), k ≤ t ∧ j = .int .i64 (k : Int) ∧ Below w.heap.size w wr ∧ Sec wr w.heap.size (nf + k) G ∧ ∀ i, i < m.old.length → (G i).getD zeros = (crashL m.old ((m.op.zip fs).take k)).getD i ByteArray.empty)
    (fun j _ => t - (intOf j).toNat)
  case atStart => exact ⟨0, F, Nat.zero_le _, rfl, unhide HB1, unhide HS1, unhide HFW⟩
  case round =>
    obtain ⟨k, G, hk, rfl, hbel, hS, hG⟩ := hrel
    have HBEL := hide hbel
    have HS := hide hS
    have HG := hide hG
    clear hbel hS hG HS1 HB1 k0 k2 k4
    by_cases hlt : k < t
    · have hlt' : (k : Int) < (t : Int) := by omega
      have hkop : k < m.op.length := by omega
      have hkf : k < fs.length := by have := unhide HT; omega
      obtain ⟨e1, e2⟩ := unhide HCELL k hkop hkop
      have g1 : wr.cell? ⟨g, k * 2, none⟩ = _ := ((unhide HBEL).cell (unhide HGL)).trans e1
      have g2 : wr.cell? ⟨g, k * 2 + 1, none⟩ = _ := ((unhide HBEL).cell (unhide HGL)).trans e2
      obtain ⟨hx, hs⟩ := (unhide HOK).op _ (List.getElem_mem hkop)
      rcases unhide HFS with hfs | ⟨b, off, rfl, hbl, hfc⟩
      · rw [hfs] at hkf; simp at hkf
      have g3 : wr.cell? ⟨b, off + k, none⟩ = _ := ((unhide HBEL).cell (p := ⟨b, off + k, none⟩) hbl).trans (hfc k hkf)
      have hstep := crash_step m.old m.op fs k hkop hkf G hx (unhide HG)
      have HSTEP := hide hstep
      clear e1 e2 hstep
      have hszo : ((G m.op[k].1).getD zeros).size = 1024 := by rw [unhide HG _ hx]; exact crashL_size (unhide HOK) fs k _ hx
      generalize m.op[k].1 = x at *
      generalize m.op[k].2 = s at *
      generalize fs.getD k 0 = f at *
      have hszt := tear_size (old := (G x).getD zeros) (data := s) f hszo hs
      have HSZ := hide hszo
      have HSD := hide hs
      have HST := hide hszt
      have hx4 : x < 4096 := by have := (unhide HOK).many; omega
      have HX4 := hide hx4
      have hkf' : (k : Int) < (fs.length : Int) := by omega
      have hroom : nf + k < maxLen := by have h1 := unhide HN; have h2 := unhide HC; unfold maxLen; omega
      have HR := hide hroom
      clear hszo hs hszt hx hx4 hroom hfc
      go_wp2_with fail
      have hba : Below w.heap.size w (wr.alloc (.cells #[.int .i64 (x : Int), .string s] 76)) := (unhide HBEL).alloc (unhide HBEL).size _
      have hSa : Sec (wr.alloc (.cells #[.int .i64 (x : Int), .string s] 76)) w.heap.size (nf + k) G := (unhide HS).same (Below.heap_alloc _ _ _ (unhide HS).lt)
      have q0 : (wr.alloc (.cells #[.int .i64 (x : Int), .string s] 76)).cell? ⟨wr.heap.size, 0, none⟩ = some (.int .i64 (x : Int)) := by simp
      have q1 : (wr.alloc (.cells #[.int .i64 (x : Int), .string s] 76)).cell? ⟨wr.heap.size, 1, none⟩ = some (.string s) := by simp
      have q3 : (wr.alloc (.cells #[.int .i64 (x : Int), .string s] 76)).cell? ⟨b, off + k, none⟩ = some (.int .i64 f) := (Below.cell ((Below.refl wr.heap.size wr).alloc (Nat.le_refl _) _) (World.block_lt_of_cell? wr _ g3)).trans g3
      obtain ⟨p, hp⟩ : ∃ y, y = wr.heap.size := ⟨_, rfl⟩
      have hpl : p < (wr.alloc (.cells #[.int .i64 (x : Int), .string s] 76)).heap.size := by rw [hp]; simp
      have hpw : w.heap.size ≠ p := by rw [hp]; have := (unhide HS).lt; omega
      have hbw : b ≠ w.heap.size := by omega
      rw [← hp] at q0 q1 ⊢
      clear hp
      generalize wr.alloc (.cells #[.int .i64 (x : Int), .string s] 76) = wa at *
      have HBA : Hid (Below w.heap.size w wa.drew) := hba.drew
      have HSA : Hid (Sec wa.drew w.heap.size (nf + k) G) := hSa.same rfl
      have q0' : wa.drew.cell? ⟨p, 0, none⟩ = some (.int .i64 (x : Int)) := q0
      have q1' : wa.drew.cell? ⟨p, 1, none⟩ = some (.string s) := q1
      have q3' : wa.drew.cell? ⟨b, off + k, none⟩ = some (.int .i64 f) := q3
      have hpl' : p < wa.drew.heap.size := hpl
      have hbl' : b < wa.drew.heap.size := World.block_lt_of_cell? _ _ q3'
      have HPL := hide hpl'
      have HBL := hide hbl'
      have HPW := hide hpw
      have HBW := hide hbw
      clear hba hSa q0 q1 q3 hpl hpl' hbl' g1 g2 g3 hbl hpw hbw
      go_region_held3 (fun w' => w'.cell? ⟨p, 0, none⟩ = some (.int .i64 (x : Int)) ∧ w'.cell? ⟨p, 1, none⟩ = some (.string s) ∧ w'.cell? ⟨b, off + k, none⟩ = some (.int .i64 f))
        (first | assumption | exact ⟨q0', q1', q3'⟩ | exact ⟨y0, y1, y3⟩ | exact ⟨z0, z1, z3⟩ | exact ⟨v0, v1, v3⟩)
        (first
          | (go_at_call 35; go_split_ands; refine (lasting_nat w.heap.size (nf + k) G x _ (unhide HSA) (unhide HX4)).mono ?_; rintro e w3 ⟨rfl, hb3⟩; have y0 := (hb3.cell (p := ⟨p, 0, none⟩) (unhide HPL)).trans q0'; have y1 := (hb3.cell (p := ⟨p, 1, none⟩) (unhide HPL)).trans q1'; have y3 := (hb3.cell (p := ⟨b, off + k, none⟩) (unhide HBL)).trans q3'; have HB3 := hide hb3; clear hb3)
          | (go_at_call 39; go_split_ands; refine (torn_any _ s f _ (unhide HSZ) (unhide HSD)).mono ?_; rintro e w4 ⟨rfl, hb4⟩; have hl3 : p < w3.heap.size := Nat.lt_of_lt_of_le (unhide HPL) (unhide HB3).size; have hl3b : b < w3.heap.size := Nat.lt_of_lt_of_le (unhide HBL) (unhide HB3).size; have z0 := (hb4.cell (p := ⟨p, 0, none⟩) hl3).trans y0; have z1 := (hb4.cell (p := ⟨p, 1, none⟩) hl3).trans y1; have z3 := (hb4.cell (p := ⟨b, off + k, none⟩) hl3b).trans y3; have hS4 : Sec w4 w.heap.size (nf + k) G := ((unhide HSA).same ((unhide HB3).block _ (unhide HSA).lt)).same (hb4.block _ (Nat.lt_of_lt_of_le (unhide HSA).lt (unhide HB3).size)); obtain ⟨w5, hrun, hS5, hg5⟩ := hS4.store_nat (unhide HX4) (tear ((G x).getD zeros) s f) (by have := unhide HST; unfold maxLen; omega) (unhide HR); have v0 := hg5.cell z0 (by have := unhide HPW; simp; omega); have v1 := hg5.cell z1 (by have := unhide HPW; simp; omega); have v3 := hg5.cell z3 (by have := unhide HBW; simp; exact this); have HB4 := hide hb4; have HS5 := hide hS5; have HG5 := hide hg5; clear hb4 hS4 hS5 hg5 hl3 hl3b))
      have hk6 : k < 1000000 := by have := unhide HN; have := unhide HC; omega
      go_wp2_with fail
      go_roundw
      case rel =>
        have e0 := (unhide HB3).size
        have b1 : Below w.heap.size w w3 := (unhide HBA).trans ((unhide HB3).mono (unhide HBA).size)
        have b2 : Below w.heap.size w w4 := b1.trans ((unhide HB4).mono b1.size)
        have b3 : Below w.heap.size w w5 := b2.grown (unhide HG5) b2.size (fun j hj => by cases hj; exact Nat.le_refl _)
        exact ⟨k + 1, _, by omega, by go_num, b3, unhide HS5, unhide HSTEP⟩
      case measure => simp [intOf]; omega
    · have hlt' : ¬ (k : Int) < (t : Int) := by omega
      have hkt : k = t := by omega
      have htake : (m.op.zip fs).take k = m.op.zip fs := List.take_of_length_le (by rw [List.length_zip]; have := unhide HT; omega)
      have hG := unhide HG
      rw [htake] at hG
      have hok2 := ok_crash (unhide HOK) fs
      have hst := started_any (c := c) (crashL m.old (m.op.zip fs)) w.heap.size (nf + k) G wr (unhide HS) (fun i hi => hG i (by rw [crashL_length] at hi; exact hi)) hok2 (by have := unhide HN; omega)
      rw [crashL_length] at hst
      have HST := hide hst
      have c0 : wr.cell? ⟨d, 0, none⟩ = some (.int .i64 (m.old.length : Int)) := ((unhide HBEL).cell (unhide HDL)).trans (unhide C0)
      clear hG hok2 hst htake
      go_wp2_with (go_at_call 25; refine (unhide HST).mono ?_; rintro e w2 ⟨rfl, hA, hb⟩)
      go_ret
      have hs := (unhide HBEL).size
      refine ⟨_, _, rfl, ⟨_, _, _, hA, rfl⟩, (unhide HBEL).trans (hb.mono hs), ?_⟩
      intro x hx
      simp [fpOf, Value.ownBlock] at hx
      omega

set_option maxHeartbeats 4000000 in
set_option maxRecDepth 20000 in
theorem crash_none (fs : List Int) (v : Value) (w : World) (h : DiskAt w d m c fb lb (.slice none 0 0)) (hop : m.op = []) (hv : IsInts w v fs) :
    Calls Try.prog 18 #[.pointer (some ⟨d, 0, none⟩), v] w fun e w' => ∃ d' fp', e = .returned (.pointer (some ⟨d', 0, none⟩)) ∧ IsDisk w' d' (crashM m fs) c fp' ∧ Below w.heap.size w w' ∧ ∀ x ∈ fp', w.heap.size ≤ x := by
  obtain ⟨F, nf, hF, hnf, hFw⟩ := h.fl
  obtain ⟨af, capf, rfl, _⟩ := hv
  have c0 := h.cell0
  have c2 := h.cell2
  have c4 := h.cell4
  have hdlt := h.dlt
  have hmn : min (0 : Int) (fs.length : Int) = 0 := by omega
  have hz : crashL m.old (m.op.zip fs) = m.old := by rw [hop]; rfl
  have hok2 := ok_crash h.ok fs
  have hcm : crashM m fs = ⟨m.old, [], -1, false⟩ := by unfold crashM; rw [hz]
  rw [hcm] at hok2 ⊢
  have HF := hide hF
  have HN := hide hnf
  have HFW := hide hFw
  have HOK := hide hok2
  have HDL := hide hdlt
  clear h hF hnf hFw hok2 hdlt hz hcm
  go_enter Try.func18, Try.ntmps18
  go_wp2_with (go_at_call 38; refine (mclone_any fb nf F _ (unhide HF)).mono ?_; rintro e w1 ⟨rfl, hS1, hb1, hz1⟩; have k0 := (hb1.cell (unhide HDL)).trans c0; have k2 := (hb1.cell (unhide HDL)).trans c2; have k4 := (hb1.cell (unhide HDL)).trans c4; have HS1 := hide hS1; have HB1 := hide hb1; clear hS1 hb1 hz1 c0 c2 c4)
  refine wp_loop_rounds 1 ?_
  rw [rounds_succ]
  have hst := started_any (c := c) m.old w.heap.size nf F w1 (unhide HS1) (unhide HFW) (unhide HOK) (by have := unhide HN; omega)
  have HST := hide hst
  clear hst
  go_wp2_with (go_at_call 25; refine (unhide HST).mono ?_; rintro e w2 ⟨rfl, hA, hb⟩)
  go_ret
  have hs := (unhide HB1).size
  refine ⟨_, _, rfl, ⟨_, _, _, hA, rfl⟩, (unhide HB1).trans (hb.mono hs), ?_⟩
  intro x hx
  simp [fpOf, Value.ownBlock] at hx
  omega

theorem crash_any (fs : List Int) (v : Value) (fp : List Nat) (w : World) (h : IsDisk w d m c fp) (hv : IsInts w v fs) (hc : c ≤ 1000000) :
    Calls Try.prog 18 #[.pointer (some ⟨d, 0, none⟩), v] w fun e w' => ∃ d' fp', e = .returned (.pointer (some ⟨d', 0, none⟩)) ∧ IsDisk w' d' (crashM m fs) c fp' ∧ Below w.heap.size w w' ∧ ∀ x ∈ fp', w.heap.size ≤ x := by
  obtain ⟨fb, lb, ov, h, rfl⟩ := h
  rcases h.op.2 with ⟨rfl, h0⟩ | ⟨g, cap, cur, rfl, _⟩
  · exact crash_none fs v w h (List.length_eq_zero_iff.1 h0) hv
  · exact crash_main fs v g cap w h hv hc
set_option maxHeartbeats 400000 in
theorem crash_nil (v : Value) (w : World) : Calls Try.prog 18 #[.pointer none, v] w fun e w' => e = .returned (.pointer none) ∧ w' = w := by
  go_enter Try.func18, Try.ntmps18
  go_wp2
  go_ret
  exact ⟨rfl, rfl⟩
end Go.Proofs.Ytmkmebogfcbphaa
