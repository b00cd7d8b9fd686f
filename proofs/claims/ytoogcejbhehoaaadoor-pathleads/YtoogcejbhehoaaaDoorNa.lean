/- What the two Names do: is it a name? -/
import Derived.Test.YtoogcejbhehoaaaDoorKi
namespace Go.Proofs.YtoogcejbhehoaaaDoor
open Go.ChangeShapes Go.WideShapes Go.ChangeAt Go.RowKit

theorem all_iff (f : UInt8 → Bool) (l : List UInt8) : l.all f = true ↔ ∀ j, j < l.length → f (l.getD j 0) = true := by
  rw [List.all_eq_true]
  constructor
  · intro h j hj
    rw [List.getD_eq_getElem?_getD, List.getElem?_eq_getElem hj]
    exact h _ (List.getElem_mem hj)
  · intro h x hx
    obtain ⟨i, hi, rfl⟩ := List.mem_iff_getElem.1 hx
    have := h i hi
    rw [List.getD_eq_getElem?_getD, List.getElem?_eq_getElem hi] at this
    exact this
theorem okB_iff (c : UInt8) : okB c = true ↔ c.toNat ≠ 47 ∧ c.toNat ≠ 0 := by
  have e1 : (47 : UInt8).toNat = 47 := rfl
  have e2 : (0 : UInt8).toNat = 0 := rfl
  simp only [okB, Bool.and_eq_true, Bool.not_eq_true', beq_eq_false_iff_ne, ne_eq, ← UInt8.toNat_inj, e1, e2]

theorem ne_lit {s : ByteArray} {l : List UInt8} (h : ¬ s = ⟨l.toArray⟩) : (s.toList == l) = false := by
  rw [toList_bs]
  exact beq_eq_false_iff_ne.2 fun e => h (bs_inj (e.trans (bs_tx l).symm))

/-- a rune more -/
theorem name_round (s : ByteArray) (pos : Nat) (h : pos < s.size) (hall : ∀ j, j < pos → okB ((bs s).getD j 0) = true) :
    ((Utf8.decode s pos).1 = 47 ∨ (Utf8.decode s pos).1 = 0 → (bs s).all okB = false) ∧
    ((Utf8.decode s pos).1 ≠ 47 → (Utf8.decode s pos).1 ≠ 0 → (∀ j, j < pos + (Utf8.decode s pos).2 → okB ((bs s).getD j 0) = true) ∧ pos + (Utf8.decode s pos).2 ≤ s.size ∧ 1 ≤ (Utf8.decode s pos).2) := by
  have hl : pos < (bs s).length := by rw [bs_len]; exact h
  have h1 : ((bs s).getD pos 0).toNat < 128 → Utf8.decode s pos = (((bs s).getD pos 0).toNat, 1) := (rune_at s pos hl).1
  have h2 : 128 ≤ ((bs s).getD pos 0).toNat → 128 ≤ (Utf8.decode s pos).1 ∧ 1 ≤ (Utf8.decode s pos).2 ∧ pos + (Utf8.decode s pos).2 ≤ (bs s).length ∧ ∀ j, pos ≤ j → j < pos + (Utf8.decode s pos).2 → 128 ≤ ((bs s).getD j 0).toNat := (rune_at s pos hl).2
  by_cases h0 : ((bs s).getD pos 0).toNat < 128
  · rw [h1 h0]
    dsimp only
    refine ⟨fun hh => ?_, fun a b => ⟨fun j hj => ?_, by omega, by omega⟩⟩
    · have hno : ¬ (bs s).all okB = true := by
        rw [all_iff]
        intro hx
        have := (okB_iff _).1 (hx pos hl)
        omega
      simpa using hno
    · by_cases hjp : j < pos
      · exact hall j hjp
      · obtain rfl : j = pos := by omega
        exact (okB_iff _).2 ⟨a, b⟩
  · obtain ⟨a, b, c, d⟩ := h2 (by omega)
    refine ⟨fun hh => by omega, fun _ _ => ⟨fun j hj => ?_, by have := bs_len s; omega, b⟩⟩
    by_cases hjp : j < pos
    · exact hall j hjp
    · have := d j (by omega) hj
      exact (okB_iff _).2 ⟨by omega, by omega⟩

/-- a name, its tests one by one -/
theorem name_tests {s : ByteArray} (h0 : ¬ s = ⟨#[]⟩) (h1 : ¬ 255 < s.size) (h2 : ¬ s = ⟨#[46]⟩) (h3 : ¬ s = ⟨#[46, 46]⟩) : nameB (bs s) = (bs s).all okB := by
  have a0 : (bs s == []) = false := beq_eq_false_iff_ne.2 fun e => h0 (bs_inj (e.trans (bs_tx []).symm))
  have a1 : decide ((bs s).length ≤ 255) = true := by rw [bs_len]; simp; omega
  have a2 : (bs s == [46]) = false := beq_eq_false_iff_ne.2 fun e => h2 (bs_inj (e.trans (bs_tx [46]).symm))
  have a3 : (bs s == [46, 46]) = false := beq_eq_false_iff_ne.2 fun e => h3 (bs_inj (e.trans (bs_tx [46, 46]).symm))
  unfold nameB
  rw [a0, a1, a2, a3]
  rfl

set_option maxHeartbeats 1000000 in
set_option maxRecDepth 10000 in
theorem name_any (s : ByteArray) (w : World) (hs : s.size ≤ 1000000) :
    Calls Tryd.prog 15 #[.string s] w fun e w' => e = .returned (.bool (nameB (bs s))) ∧ Below w.heap.size w w' := by
  by_cases h0 : s = ⟨#[]⟩
  · subst h0
    go_enter Tryd.func15, Tryd.ntmps15
    go_wp2
    go_ret
    exact ⟨rfl, Below.refl _ _⟩
  by_cases h1 : 255 < s.size
  · have hn : nameB (bs s) = false := by
      have : decide ((bs s).length ≤ 255) = false := by rw [bs_len]; simp; omega
      unfold nameB
      rw [this]
      simp
    have g1 : (255 : Int) < (s.size : Int) := by omega
    have k1 := full_of (s := s) (fun e => h0 (bs_inj (e.trans (bs_tx []).symm)))
    rw [hn]
    go_enter Tryd.func15, Tryd.ntmps15
    go_wp2
    go_ret
    exact ⟨rfl, Below.refl _ _⟩
  by_cases h2 : s = ⟨#[46]⟩
  · subst h2
    go_enter Tryd.func15, Tryd.ntmps15
    go_wp2
    go_ret
    exact ⟨rfl, Below.refl _ _⟩
  by_cases h3 : s = ⟨#[46, 46]⟩
  · subst h3
    go_enter Tryd.func15, Tryd.ntmps15
    go_wp2
    go_ret
    exact ⟨rfl, Below.refl _ _⟩
  rw [name_tests h0 h1 h2 h3]
  have k1 := full_of (s := s) (fun e => h0 (bs_inj (e.trans (bs_tx []).symm)))
  have k2 := ne_lit h2
  have k3 := ne_lit h3
  have g1 : ¬ (255 : Int) < (s.size : Int) := by omega
  have hk0 : (w.iter s 0).heap[w.heap.size]? = some (.stringIter s 0) := World.iter_heap w s 0
  have hb0 : Below w.heap.size w (w.iter s 0) := b_alloc w _
  clear h0 h2 h3
  go_enter Tryd.func15, Tryd.ntmps15
  go_wp2
  go_loopw [4] (fun _ wr => ∃ pos : Nat, pos ≤ s.size ∧ wr.heap[w.heap.size]? = some (.stringIter s pos) ∧ (∀ j, j < pos → okB ((bs s).getD j 0) = true) ∧ Below w.heap.size w wr)
    (fun _ wr => s.size - wr.iterPos w.heap.size)
  case atStart => exact ⟨0, Nat.zero_le _, hk0, fun j hj => by omega, hb0⟩
  case round =>
    obtain ⟨pos, hps, hk, hall, hb⟩ := hrel
    clear hk0 hb0
    have HA := hide hall
    have HB := hide hb
    have HK := hide hk
    clear hall hb
    by_cases hp : pos < s.size
    · have hnext : ∀ ty, (Instr.next (.pointer (some ⟨w.heap.size, 0, none⟩)) true ty).run Tryd.prog wr = _ := fun ty => Lib.run_next_any_at wr w.heap.size s pos ty hk hp
      have hk1 := hide (Lib.iterAt_heap wr w.heap.size s pos (pos + (Utf8.decode s pos).2) hk)
      have hb1 := hide (Lib.below_iterAt (unhide HB) (Nat.le_refl _) s (pos + (Utf8.decode s pos).2))
      have hmu : wr.iterPos w.heap.size = pos := by simp [World.iterPos, hk]
      have HM := hide hmu
      obtain ⟨n1, n2⟩ := name_round s pos hp (unhide HA)
      generalize wr.iterAt w.heap.size s (pos + (Utf8.decode s pos).2) = W1 at hnext hk1 hb1
      generalize Utf8.decode s pos = d at hnext hk1 n1 n2
      obtain ⟨r, wd⟩ := d
      dsimp only at hnext hk1 n1 n2
      have N1 := hide n1
      have N2 := hide n2
      clear n1 n2 hk hmu
      by_cases h47 : r = 47
      · have hx := hide (unhide N1 (.inl h47))
        subst h47
        go_wp2
        go_ret
        exact ⟨by show Ending.returned (Value.bool false) = _; rw [unhide hx], unhide hb1⟩
      by_cases h00 : r = 0
      · have hx := hide (unhide N1 (.inr h00))
        subst h00
        go_wp2
        go_ret
        exact ⟨by show Ending.returned (Value.bool false) = _; rw [unhide hx], unhide hb1⟩
      have t1 : ((r : Int) == 47) = false := beq_eq_false_iff_ne.2 (by omega)
      have t2 : ((r : Int) == 0) = false := beq_eq_false_iff_ne.2 (by omega)
      have u1 : ¬ (r : Int) = 47 := by omega
      have u2 : ¬ (r : Int) = 0 := by omega
      obtain ⟨m1, m2, m3⟩ := unhide N2 h47 h00
      have M1 := hide m1
      clear m1
      go_wp2
      go_roundw
      case rel => exact ⟨pos + wd, m2, unhide hk1, unhide M1, unhide hb1⟩
      case measure =>
        have hmu2 : W1.iterPos w.heap.size = pos + wd := by have := unhide hk1; simp [World.iterPos, this]
        rw [unhide HM, hmu2]
        omega
    · have hnext : ∀ ty, (Instr.next (.pointer (some ⟨w.heap.size, 0, none⟩)) true ty).run Tryd.prog wr = _ := fun ty => Lib.run_next_end_at wr w.heap.size s pos ty hk hp
      clear hk
      go_wp2
      go_ret
      refine ⟨?_, unhide HB⟩
      have : (bs s).all okB = true := (all_iff _ _).2 fun j hj => unhide HA j (by rw [bs_len] at hj; omega)
      show Ending.returned (Value.bool true) = _
      rw [this]
end Go.Proofs.YtoogcejbhehoaaaDoor
