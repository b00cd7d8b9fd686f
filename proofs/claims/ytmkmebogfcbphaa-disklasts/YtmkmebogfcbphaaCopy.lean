/- Copy: another disk like this one. -/
import Derived.Test.YtmkmebogfcbphaaData
namespace Go.Proofs.Ytmkmebogfcbphaa
open Go.ChangeShapes Go.WideShapes Go.ChangeAt Go.RowKit Go.Maps

variable {d : Nat} {m : Dk} {c fb lb : Nat} {ov : Value}

theorem DiskAt.copied {d2 fb2 lb2 : Nat} {w3 w4 w5 : World} {L : Nat → Option ByteArray} {ov' : Value} (hok : Ok m) (hcl : m.op.length ≤ c) (h : DiskAt w3 d2 ⟨m.old, [], m.left, m.gone⟩ (c - m.op.length) fb2 lb2 (.slice none 0 0))
    {N : Nat → Option ByteArray} (hL4 : Sec w4 lb2 (0 + m.op.length) (over N L)) (hN : ∀ i, i < m.old.length → N i = none) (hg4 : w3.grownBy w4 (some lb2)) (hL : ∀ i, i < m.old.length → L i = lastW m.op i)
    (hown : w5.ownsRow w4.heap.size 76 2 ov' m.op.length (opCells m.op)) (hb5 : Below w4.heap.size w4 w5) :
    DiskAt (w5.setCell ⟨d2, 4, none⟩ ov') d2 m c fb2 lb2 ov' ∧ Moves [d2, fb2, lb2] w3 (w5.setCell ⟨d2, 4, none⟩ ov') := by
  have hd4 : w4.heap[d2]? = w3.heap[d2]? := hg4.block d2 h.dlt (fun e => h.dl (Option.some.inj e))
  have hlt4 : d2 < w4.heap.size := Nat.lt_of_lt_of_le h.dlt hg4.size
  have hd5 : w5.heap[d2]? = w3.heap[d2]? := (hb5.block d2 hlt4).trans hd4
  obtain ⟨F, nf, h1, r1, r2⟩ := h.fl
  have hf5 : w5.heap[fb2]? = w3.heap[fb2]? := (hb5.block fb2 (Nat.lt_of_lt_of_le h1.lt hg4.size)).trans (hg4.block fb2 h1.lt (fun e => h.ne (Option.some.inj e)))
  have hl5 : w5.heap[lb2]? = w4.heap[lb2]? := hb5.block lb2 hL4.lt
  have hnd : ov'.ownBlock ≠ some d2 := by
    intro e
    have := (hown.lt d2 e).1
    omega
  refine ⟨⟨?_, ⟨F, nf, h1.same ((Below.heap_setCell _ _ _ _ (by have := h.df; simp; omega)).trans hf5), ?_, r2⟩, ⟨over N L, ?_, ?_⟩, ?_, h.ne, hnd, hok⟩, ?_⟩
  · have hb := hd5.trans h.blk
    simp [World.setCell, Array.getElem?_modify, hb]
    rfl
  · have r1' : nf + 0 ≤ c - m.op.length := r1
    omega
  · rw [Nat.zero_add] at hL4
    exact hL4.same ((Below.heap_setCell _ _ _ _ (by have := h.dl; simp; omega)).trans hl5)
  · intro i hi
    rw [← hL i hi]
    unfold over
    cases L i
    · exact hN i hi
    · rfl
  · exact ownsRow_same (ownsRow_base hown (Nat.zero_le _)) (fun g hg => Below.heap_setCell _ _ _ _ (by intro e; exact hnd (by rw [hg, e])))
  · exact ((Moves.of_grown hg4 (fun k hk => by cases hk; simp)).then (Moves.of_below _ hb5)).then (Moves.set _ _ _ _ (by simp))

set_option maxHeartbeats 2000000 in
set_option maxRecDepth 20000 in
theorem copy_at (w : World) (h : DiskAt w d m c fb lb ov) (hc : c ≤ 1000000) :
    Calls Try.prog 23 #[.pointer (some ⟨d, 0, none⟩)] w fun e w' => ∃ d' fp', e = .returned (.pointer (some ⟨d', 0, none⟩)) ∧ IsDisk w' d' m c fp' ∧ Below w.heap.size w w' ∧ ∀ x ∈ fp', w.heap.size ≤ x := by
  obtain ⟨F, nf, hF, hnf, hFw⟩ := h.fl
  obtain ⟨L, hL, hLw⟩ := h.la
  have hok := h.ok
  have HA : Hid (DiskAt w.drew d m c fb lb ov) := h.grow (Below.refl _ _).drew
  have HF : Hid (Sec w.drew fb nf F) := hF.same rfl
  have HL : Hid (Sec w.drew lb m.op.length L) := hL.same rfl
  have HN := hide hnf
  have HFW := hide hFw
  have HLW := hide hLw
  have HOK := hide hok
  have HC := hide hc
  have HOK2 : Hid (Ok ⟨m.old, [], -1, false⟩) := ⟨hok.old, (fun p hp => absurd hp List.not_mem_nil), (by show (-1 : Int) ≤ -1 ∧ (-1 : Int) ≤ 9223372036854775807; omega), hok.many⟩
  have c0 := (unhide HA).cell0
  have c2 := (unhide HA).cell2
  have HLT := hide h.dlt
  clear h hF hnf hFw hL hLw hok hc
  go_enter Try.func23, Try.ntmps23
  go_wp2_with fail
  go_region_held3 (fun w' => w'.cell? ⟨d, 0, none⟩ = some (.int .i64 (m.old.length : Int)) ∧ w'.cell? ⟨d, 2, none⟩ = some (.map (some fb)))
    (first | assumption | exact ⟨c0, c2⟩ | exact ⟨k0, k2⟩ | exact ⟨k0', k2'⟩)
    (first
      | (go_at_call 38; go_split_ands; refine (mclone_any fb nf F _ (unhide HF)).mono ?_; rintro x w1 ⟨rfl, hS1, hb1, hz1⟩; have k0 := (hb1.cell (unhide HLT)).trans c0; have k2 := (hb1.cell (unhide HLT)).trans c2; have HS1 := hide hS1; have HB1 := hide hb1; have HZ1 := hide hz1; clear hS1 hb1 hz1)
      | (go_at_call 25; go_split_ands; refine (started_any (c := c - m.op.length) m.old _ nf F _ (unhide HS1) (unhide HFW) (unhide HOK2) (by have := unhide HN; omega)).mono ?_; rintro x w2 ⟨rfl, hA2, hb2⟩; have hl1 : d < w1.heap.size := Nat.lt_of_lt_of_le (unhide HLT) (unhide HB1).size; have k0' := (hb2.cell hl1).trans k0; have k2' := (hb2.cell hl1).trans k2; have HA2 := hide hA2; have HB2 := hide hb2; clear hA2 hb2 hl1))
  have HD2 : Hid (DiskAt w2 d m c fb lb ov) := ((unhide HA).grow (unhide HB1)).grow (unhide HB2)
  have q1 := (unhide HD2).cell1
  have q2 := (unhide HA2).cell1
  have q3 := (unhide HA2).free 1
  clear k0 k2 k0' k2' c0 c2
  go_wp2_with fail
  have hA3 := (unhide HA2).power ⟨m.old, [], m.left, m.gone⟩ (pw m) rfl rfl rfl ⟨(unhide HOK).old, (fun p hp => absurd hp List.not_mem_nil), (unhide HOK).left, (unhide HOK).many⟩
  have hm3 : Moves [w1.heap.size + 1] w2 (w2.setCell ⟨w1.heap.size + 1, 1, none⟩ (.int .i64 (pw m))) := Moves.set _ _ _ _ (by simp)
  have hD3 : DiskAt (w2.setCell ⟨w1.heap.size + 1, 1, none⟩ (.int .i64 (pw m))) d m c fb lb ov := by
    refine (unhide HD2).keep hm3 (fun x hx hx' => ?_)
    have h1 := ((unhide HA).lt x hx)
    have h2 := (unhide HB1).size
    have h3 : x = w1.heap.size + 1 := by simpa using hx'
    have h4 : w.drew.heap.size = w.heap.size := rfl
    omega
  obtain ⟨w3, hw3⟩ : ∃ x, x = w2.setCell ⟨w1.heap.size + 1, 1, none⟩ (.int .i64 (pw m)) := ⟨_, rfl⟩
  rw [← hw3] at hA3 hm3 hD3 ⊢
  clear hw3 q1 q2 q3
  have HA3 : Hid (DiskAt w3.drew (w1.heap.size + 1) ⟨m.old, [], m.left, m.gone⟩ (c - m.op.length) w.heap.size w1.heap.size (.slice none 0 0)) := hA3.grow (Below.refl _ _).drew
  have HD3 : Hid (DiskAt w3.drew d m c fb lb ov) := hD3.grow (Below.refl _ _).drew
  have HM3 := hide hm3
  clear hA3 hD3 hm3
  obtain ⟨L3, hL3, hLw3⟩ := (unhide HD3).la
  obtain ⟨N3, hN3, hNw3⟩ := (unhide HA3).la
  have HL3 := hide hL3
  have HLW3 := hide hLw3
  have HN3 := hide hN3
  have HNW3 := hide hNw3
  clear hL3 hLw3 hN3 hNw3
  have p3 := (unhide HA3).cell3
  have p4 := (unhide HD3).cell3
  have hne : w1.heap.size ≠ lb := by
    have h1 := (unhide HL).lt
    have h2 := (unhide HB1).size
    have h4 : w.drew.heap.size = w.heap.size := rfl
    have h5 := unhide HZ1
    omega
  have hdl : d ≠ w1.heap.size := by
    have h2 := (unhide HB1).size
    have h5 := unhide HLT
    have h4 : w.drew.heap.size = w.heap.size := rfl
    omega
  have HNE := hide hne
  have HDL := hide hdl
  clear hne hdl
  go_region_held3 (fun w' => w'.cell? ⟨w1.heap.size + 1, 3, none⟩ = some (.map (some w1.heap.size)) ∧ w'.cell? ⟨d, 3, none⟩ = some (.map (some lb)))
    (first | assumption | exact ⟨p3, p4⟩ | exact ⟨k3, k4⟩)
    (first
      | (go_at_call 40; go_split_ands; refine (mcopy_any w1.heap.size lb 0 m.op.length N3 L3 _ (unhide HN3) (unhide HL3) (unhide HNE) (by have h1 : nf + m.op.length ≤ c := unhide HN; have h2 := unhide HC; unfold maxLen; omega)).mono ?_; rintro x w4 ⟨rfl, hS4, hg4⟩; have k3 := hg4.cell p3 (by simp); have k4 := hg4.cell p4 (by have := unhide HDL; simp; exact this); have HS4 := hide hS4; have HG4 := hide hg4; clear hS4 hg4))
  have r4 := (unhide HG4).cell (unhide HD3).cell4 (by have := unhide HDL; simp; exact this)
  have HO4 : Hid (w4.ownsRow 0 76 2 ov m.op.length (opCells m.op)) := ownsRow_same (unhide HD3).op (fun g hg => (unhide HG4).block g ((unhide HD3).op.lt g hg).2 (fun e => by
    have h1 := (unhide HA).op.lt g hg
    have h2 := (unhide HB1).size
    have h3 := Option.some.inj e
    have h4 : w.drew.heap.size = w.heap.size := rfl
    have h5 := unhide HZ1
    omega))
  clear k3 k4 p3 p4
  go_wp2_with (first
    | (go_at_call 41; refine (sliceClone_any m.op _ _ (unhide HO4) (by have h1 : nf + m.op.length ≤ c := unhide HN; have h2 := unhide HC; omega)).mono ?_; rintro e w5 ⟨ov', rfl, hown5, hb5⟩; obtain ⟨a5, cap5, rfl⟩ := ownsRow_form hown5; have hz5 : w1.heap.size + 1 < w4.heap.size := Nat.lt_of_lt_of_le (unhide HA3).dlt (unhide HG4).size; have s4 := (hb5.cell (p := ⟨w1.heap.size + 1, 4, none⟩) hz5).trans ((unhide HG4).cell (unhide HA3).cell4 (by simp)); have f4 : w5.frozen? ⟨w1.heap.size + 1, 4, none⟩ = false := (hb5.frozen (p := ⟨w1.heap.size + 1, 4, none⟩) hz5).trans ((grown_frozen (unhide HG4) (unhide HA3).dlt (by simp) 4).trans ((unhide HA3).free 4)); have HX := hide (And.intro hown5 hb5); clear hown5 hb5 hz5))
  go_ret
  obtain ⟨hown5, hb5⟩ := unhide HX
  have hcl : m.op.length ≤ c := by have h1 : nf + m.op.length ≤ c := unhide HN; omega
  obtain ⟨t1, t2⟩ := DiskAt.copied (unhide HOK) hcl (unhide HA3) (unhide HS4) (unhide HNW3) (unhide HG4) (unhide HLW3) hown5 hb5
  refine ⟨_, _, rfl, ⟨_, _, _, t1, rfl⟩, ?_, ?_⟩
  · have e0 : w.drew.heap.size = w.heap.size := rfl
    have s1 := (unhide HB1).size
    have hb2' : Below w.heap.size w w2 := ((Below.refl _ _).drew.trans (unhide HB1)).trans ((unhide HB2).mono (by omega))
    have hb3 : Below w.heap.size w w3 := Moves.below hb2' (unhide HM3) (fun x hx => by simp at hx; omega) hb2'.size
    have hb3' : Below w.heap.size w w3.drew := hb3.drew
    exact Moves.below hb3' t2 (fun x hx => by simp at hx; omega) hb3'.size
  · intro x hx
    have e0 : w.drew.heap.size = w.heap.size := rfl
    have s1 := (unhide HB1).size
    simp [fpOf] at hx
    rcases hx with h | h | h | h
    · omega
    · omega
    · omega
    · have h1 := (hown5.lt x h).1
      have h2 := (unhide HG4).size
      have h3 := (unhide HM3).size
      have h4 := (unhide HB2).size
      have e1 : w3.drew.heap.size = w3.heap.size := rfl
      omega

theorem copy_any (fp : List Nat) (w : World) (h : IsDisk w d m c fp) (hc : c ≤ 1000000) :
    Calls Try.prog 23 #[.pointer (some ⟨d, 0, none⟩)] w fun e w' => ∃ d' fp', e = .returned (.pointer (some ⟨d', 0, none⟩)) ∧ IsDisk w' d' m c fp' ∧ Below w.heap.size w w' ∧ ∀ x ∈ fp', w.heap.size ≤ x := by
  obtain ⟨fb, lb, ov, h, rfl⟩ := h
  exact copy_at w h hc
set_option maxHeartbeats 400000 in
theorem copy_nil (w : World) : Calls Try.prog 23 #[.pointer none] w fun e w' => e = .returned (.pointer none) ∧ w' = w := by
  go_enter Try.func23, Try.ntmps23
  go_wp2
  go_ret
  exact ⟨rfl, rfl⟩
end Go.Proofs.Ytmkmebogfcbphaa
