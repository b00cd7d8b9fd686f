/- The document's disk: Flush. -/
import Derived.Test.YtmkmebogfcbphaaRefd
import Derived.BigRegion
import Derived.Laws.OwnMore
namespace Go.Proofs.Ytmkmebogfcbphaa
open Go.ChangeShapes Go.WideShapes Go.ChangeAt Go.RowKit

variable {r : Nat} {m : Dk} {ov pv : Value}

/-- a sector is stored into its row -/
theorem RefAt.stored {w : World} {g cap N : Nat} {x : Nat} {s : ByteArray} (h : RefAt w r m (.slice (some ⟨g, 0, none⟩) N cap) pv) (hN : N = m.old.length) (hx : x < m.old.length) (hs : s.size = 1024) :
    RefAt (w.setCell ⟨g, x, none⟩ (.string s)) r { m with old := m.old.set x s } (.slice (some ⟨g, 0, none⟩) N cap) pv := by
  have hrg : r ≠ g := fun e => h.no (by rw [e]; rfl)
  have hm : ∀ k, k ≠ g → (w.setCell ⟨g, x, none⟩ (.string s)).heap[k]? = w.heap[k]? := fun k hk => Below.heap_setCell _ _ _ _ hk
  refine ⟨(hm r hrg).trans h.blk, ?_, ownsRow_same h.op (fun k hk => hm k (fun e => h.nn g rfl (by rw [hk, e]))), ?_⟩
  · have h1 := h.old
    rw [← hN] at h1
    have h2 := (h1.stored x (.string s)).1
    show World.ownsRow _ 0 9 1 _ (m.old.set x s).length (strs (m.old.set x s))
    rw [List.length_set, ← hN]
    unfold strs at h2 ⊢
    rw [List.map_set]
    exact h2
  · refine ⟨fun i hi => ?_, fun p hp => ?_, h.ok.left, ?_⟩
    · have hi' : i < m.old.length := by simpa using hi
      show ((m.old.set x s).getD i ByteArray.empty).size = 1024
      rw [List.getD_eq_getElem?_getD, List.getElem?_set]
      split
      · exact hs
      · rw [← List.getD_eq_getElem?_getD]; exact h.ok.old i hi'
    · have := h.ok.op p hp
      show p.1 < (m.old.set x s).length ∧ _
      rw [List.length_set]
      exact this
    · show (m.old.set x s).length ≤ 4096
      rw [List.length_set]
      exact h.ok.many

set_option maxHeartbeats 1000000 in
set_option maxRecDepth 20000 in
theorem rflush_gone (w : World) (h : RefAt w r m ov pv) (hg : m.gone = true) :
    Calls Try.prog 28 #[.pointer (some ⟨r, 0, none⟩)] w fun e w' => e = .returned (.int .i64 30) ∧ w' = w := by
  have c3 := h.cell3
  rw [hg] at c3
  clear h
  go_enter Try.func28, Try.ntmps28
  go_wp2
  go_ret
  exact ⟨rfl, rfl⟩
set_option maxHeartbeats 1000000 in
set_option maxRecDepth 20000 in
theorem rflush_now (w : World) (h : RefAt w r m ov pv) (hg : m.gone = false) (hl : m.left = 0) :
    Calls Try.prog 28 #[.pointer (some ⟨r, 0, none⟩)] w fun e w' => e = .returned (.int .i64 30) ∧ RefAt w' r { m with gone := true } ov pv ∧ Moves [r] w w' := by
  have c3 := h.cell3
  rw [hg] at c3
  have H := hide h
  have HL := hide hl
  clear h hl
  go_enter Try.func28, Try.ntmps28
  go_wp2_with (go_at_call 42; refine (rspend_now _ (unhide H) (unhide HL)).mono ?_; rintro e w1 ⟨rfl, hA, hm⟩)
  go_ret
  exact ⟨rfl, hA, hm⟩

set_option maxHeartbeats 2000000 in
set_option maxRecDepth 20000 in
theorem rflush_ok (w : World) (h : RefAt w r m ov pv) (hg : m.gone = false) (hl : m.left ≠ 0) (hpos : 0 < m.old.length) (hc : m.op.length ≤ 1000000) :
    Calls Try.prog 28 #[.pointer (some ⟨r, 0, none⟩)] w fun e w' => e = .returned (.int .i64 0) ∧
      RefAt w' r { m with left := spent m.left, old := flushL m.old m.op, op := [] } ov (.slice none 0 0) ∧ Moves (rfOf r ov pv) w w' := by
  have c3 := h.cell3
  rw [hg] at c3
  have H := hide h
  have HL := hide hl
  have HG := hide hg
  obtain ⟨go, capo, rfl, _, _⟩ := row_some h.old hpos
  obtain ⟨ap, capp, rfl⟩ := ownsRow_form h.op
  clear h hl hg
  go_enter Try.func28, Try.ntmps28
  go_wp2_with (go_at_call 42; refine (rspend_any _ (unhide H) (unhide HL)).mono ?_; rintro e w1 ⟨rfl, hA, hm⟩; have HA1 := hide hA; have HM1 := hide hm; clear hA hm)
  go_loopw [3] (fun j wr => ∃ k : Nat, k ≤ m.op.length ∧ j = .int .i64 (k : Int) ∧ RefAt wr r { m with left := spent m.left, old := flushL m.old (m.op.take k) } (.slice (some ⟨go, 0, none⟩) m.old.length capo) (.slice ap m.op.length capp) ∧ Moves (rfOf r (.slice (some ⟨go, 0, none⟩) m.old.length capo) (.slice ap m.op.length capp)) w wr) (fun j _ => m.op.length - (intOf j).toNat)
  case atStart => exact ⟨0, Nat.zero_le _, rfl, unhide HA1, (unhide HM1).mono (fun x hx => .inl (by simp at hx; simp [rfOf, hx]))⟩
  case round =>
    clear HA1 HM1
    obtain ⟨k, hk, rfl, hA, hm⟩ := hrel
    have c0 := hA.cell0
    have c1 := hA.cell1
    have HA := hide hA
    have HM := hide hm
    have hk6 : k ≤ 1000000 := by omega
    clear hA hm
    by_cases hlt : k < m.op.length
    · have hlt' : (k : Int) < (m.op.length : Int) := by omega
      obtain ⟨gp, capq, ep, _, _⟩ := row_some (unhide HA).op (by show 0 < m.op.length; omega)
      cases ep
      have q1 := row_cell (unhide HA).op (k * 2) _ (opCells_at m.op k hlt).1
      have q2 := row_cell (unhide HA).op (k * 2 + 1) _ (opCells_at m.op k hlt).2
      obtain ⟨hx, hs⟩ := (unhide H).ok.op _ (List.getElem_mem hlt)
      have htk : m.op.take (k + 1) = m.op.take k ++ [m.op[k]] := by rw [List.take_add_one, List.getElem?_eq_getElem hlt]; rfl
      have hfl := flushL_snoc m.old (m.op.take k) m.op[k]
      rw [← htk] at hfl
      have HFL := hide hfl
      clear htk hfl
      have hlen := flushL_length m.old (m.op.take k)
      have hst := (unhide HA)
      generalize m.op[k].1 = x at *
      generalize m.op[k].2 = s at *
      have q3 : ∃ u, wr.cell? ⟨go, x, none⟩ = some (.string u) := by
        have h1 := hst.old
        have h2 := strs_at (flushL m.old (m.op.take k)) x (by rw [hlen]; exact hx)
        rw [show ({ m with left := spent m.left, old := flushL m.old (m.op.take k) } : Dk).old = flushL m.old (m.op.take k) from rfl, hlen] at h1
        exact ⟨_, row_cell h1 x _ h2⟩
      obtain ⟨u, q3⟩ := q3
      have f3 : wr.frozen? ⟨go, x, none⟩ = false := by
        obtain ⟨cur, hcur⟩ := ownsRow_kind hst.old rfl
        simp [World.frozen?, hcur]
      have hx' : (x : Int) < (m.old.length : Int) := by omega
      have hro : r ≠ go := fun e => hst.no (by rw [e]; rfl)
      have hpo : gp ≠ go := fun e => hst.nn go rfl (by rw [e]; rfl)
      clear hst
      go_wp2_with fail
      go_region
      go_wp2_with fail
      go_roundw
      case rel =>
        have hst := (unhide HA).stored (x := x) (s := s) (by show m.old.length = (flushL m.old (m.op.take k)).length; rw [flushL_length]) (by show x < (flushL m.old (m.op.take k)).length; rw [flushL_length]; exact hx) hs
        refine ⟨k + 1, by omega, by go_num, ?_, (unhide HM).then ((Moves.set wr go x _ (by simp [rfOf, Value.ownBlock])).then (Moves.of_below _ (Below.refl _ _).drew))⟩
        rw [unhide HFL]
        exact hst.same (fun y _ => rfl)
      case measure => simp [intOf]; omega
    · have hlt' : ¬ (k : Int) < (m.op.length : Int) := by omega
      have hkl : m.op.take k = m.op := List.take_of_length_le (by omega)
      rw [hkl] at HA
      have f1 := (unhide HA).free 1
      clear hkl
      go_wp2
      go_ret
      have hA := unhide HA
      have hmv : Moves [r] wr (wr.setCell ⟨r, 1, none⟩ (.slice none 0 0)) := Moves.set _ _ _ _ (by simp)
      refine ⟨rfl, ⟨?_, ?_, World.ownsRow_nil _ _ _ _, ?_⟩, (unhide HM).then (hmv.mono (fun x hx => .inl (by simp at hx; simp [rfOf, hx])))⟩
      · have hb := hA.blk
        simp [World.setCell, Array.getElem?_modify, hb]
      · exact ownsRow_same hA.old (fun g hg => Below.heap_setCell _ _ _ _ (by intro e; exact hA.no (by rw [hg, e])))
      · exact ⟨hA.ok.old, (fun p hp => absurd hp List.not_mem_nil), hA.ok.left, hA.ok.many⟩

theorem rflush_any (fp : List Nat) (w : World) (h0 : IsRef w r m fp) (hpos : 0 < m.old.length) (hc : m.op.length ≤ 1000000) :
    Calls Try.prog 28 #[.pointer (some ⟨r, 0, none⟩)] w fun e w' => e = .returned (.int .i64 (flushE m)) ∧ RTurned w w' r (flushM m) fp := by
  have h0' := h0.stays
  obtain ⟨ov, pv, h, rfl⟩ := h0
  unfold flushE flushM
  cases hg : m.gone with
  | true =>
    refine (rflush_gone w h hg).mono ?_
    rintro e w' ⟨rfl, rfl⟩
    exact ⟨rfl, h0'⟩
  | false =>
    simp only [Bool.false_eq_true, if_false]
    by_cases hl : m.left = 0
    · rw [if_pos hl, if_pos hl]
      refine (rflush_now w h hg hl).mono ?_
      rintro e w' ⟨rfl, hA, hm⟩
      exact ⟨rfl, _, ⟨ov, pv, hA, rfl⟩, hm.mono (fun x hx => .inl (by simp at hx; simp [rfOf, hx])), fun _ hx => .inl hx⟩
    · rw [if_neg hl, if_neg hl]
      refine (rflush_ok w h hg hl hpos hc).mono ?_
      rintro e w' ⟨rfl, r1, r2⟩
      rw [hg] at r1
      refine ⟨rfl, _, ⟨ov, _, r1, rfl⟩, r2, fun x hx => .inl ?_⟩
      simp [rfOf, Value.ownBlock] at hx ⊢
      rcases hx with h | h <;> simp [h]
end Go.Proofs.Ytmkmebogfcbphaa
