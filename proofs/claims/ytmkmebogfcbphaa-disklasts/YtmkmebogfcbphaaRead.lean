/- What is asked of a disk: Read, Sectors, Open, Down. -/
import Derived.Test.YtmkmebogfcbphaaDisk
namespace Go.Proofs.Ytmkmebogfcbphaa
open Go.ChangeShapes Go.WideShapes Go.ChangeAt Go.RowKit

set_option maxHeartbeats 400000 in
theorem lasting_some (b k : Nat) (f : Nat → Option ByteArray) (n : Int) (s : ByteArray) (w : World) (h : Sec w b k f) (h0 : 0 ≤ n) (h1 : n < 4096) (hf : f n.toNat = some s) :
    Calls Try.prog 35 #[.map (some b), .int .i64 n] w fun e w' => e = .returned (.string s) ∧ Below w.heap.size w w' := by
  have hl := h.look h0 h1 hf
  go_enter Try.func35, Try.ntmps35
  go_wp2
  go_ret
  exact ⟨rfl, (Below.refl _ _).alloc (Nat.le_refl _) _⟩
set_option maxHeartbeats 400000 in
theorem lasting_none (b k : Nat) (f : Nat → Option ByteArray) (n : Int) (w : World) (h : Sec w b k f) (h0 : 0 ≤ n) (h1 : n < 4096) (hf : f n.toNat = none) :
    Calls Try.prog 35 #[.map (some b), .int .i64 n] w fun e w' => e = .returned (.string zeros) ∧ Below w.heap.size w w' := by
  have hl := h.look_none h0 h1 hf
  go_enter Try.func35, Try.ntmps35
  go_wp2_with (go_at_call 44; refine (zeros_any _).mono ?_; rintro e w' ⟨rfl, hb⟩)
  go_ret
  refine ⟨rfl, ?_⟩
  exact ((Below.refl _ _).alloc (Nat.le_refl _) _).trans (hb.mono (by simp))
theorem lasting_any (b k : Nat) (f : Nat → Option ByteArray) (n : Int) (w : World) (h : Sec w b k f) (h0 : 0 ≤ n) (h1 : n < 4096) :
    Calls Try.prog 35 #[.map (some b), .int .i64 n] w fun e w' => e = .returned (.string ((f n.toNat).getD zeros)) ∧ Below w.heap.size w w' := by
  cases hf : f n.toNat with
  | none => exact lasting_none b k f n w h h0 h1 hf
  | some s => exact lasting_some b k f n s w h h0 h1 hf

variable {d : Nat} {m : Dk} {c fb lb : Nat} {ov : Value}

set_option maxHeartbeats 400000 in
set_option maxRecDepth 20000 in
theorem read_gone (n : Int) (w : World) (h : DiskAt w d m c fb lb ov) (hg : m.gone = true) :
    Calls Try.prog 15 #[.pointer (some ⟨d, 0, none⟩), .int .i64 n] w fun e w' => e = .returned (.tuple #[.string ByteArray.empty, .int .i64 30]) ∧ Below w.heap.size w w' := by
  have h1 := h.cell1
  have e : pw m = -2 := by unfold pw; rw [if_pos hg]
  rw [e] at h1
  go_enter Try.func15, Try.ntmps15
  go_wp2
  go_ret2
  exact ⟨rfl, Below.refl _ _⟩
set_option maxHeartbeats 400000 in
set_option maxRecDepth 20000 in
theorem read_out (n : Int) (w : World) (h : DiskAt w d m c fb lb ov) (hg : m.gone = false) (hn : n < 0 ∨ (m.old.length : Int) ≤ n) :
    Calls Try.prog 15 #[.pointer (some ⟨d, 0, none⟩), .int .i64 n] w fun e w' => e = .returned (.tuple #[.string ByteArray.empty, .int .i64 31]) ∧ Below w.heap.size w w' := by
  have h1 := h.cell1
  have e : pw m = m.left := by unfold pw; rw [if_neg (by rw [hg]; decide)]
  rw [e] at h1
  have hl : m.left ≠ -2 := by have := h.ok.left; omega
  have h0 := hide h.cell0
  have HN := hide hn
  clear hn
  go_enter Try.func15, Try.ntmps15
  go_wp2_with (go_at_call 33; refine (has_no _ _ _ _ (unhide h0) (unhide HN)).mono ?_; rintro e w' ⟨rfl, rfl⟩)
  go_ret2
  exact ⟨rfl, Below.refl _ _⟩
set_option maxHeartbeats 400000 in
set_option maxRecDepth 20000 in
theorem read_open (n : Int) (s : ByteArray) (w : World) (h : DiskAt w d m c fb lb ov) (hg : m.gone = false) (hn0 : 0 ≤ n) (hn1 : n < (m.old.length : Int)) (hs : lastW m.op n.toNat = some s) :
    Calls Try.prog 15 #[.pointer (some ⟨d, 0, none⟩), .int .i64 n] w fun e w' => e = .returned (.tuple #[.string s, .int .i64 0]) ∧ Below w.heap.size w w' := by
  have h1 := h.cell1
  have e : pw m = m.left := by unfold pw; rw [if_neg (by rw [hg]; decide)]
  rw [e] at h1
  have hl : m.left ≠ -2 := by have := h.ok.left; omega
  have h0 := hide h.cell0
  have h3 := h.cell3
  obtain ⟨L, hL, hLw⟩ := h.la
  have hmany := h.ok.many
  have hlk := hL.look (n := n) hn0 (by omega) ((hLw n.toNat (by omega)).trans hs)
  have hsz : s.size ≤ 1000000 := by have := (h.ok.op _ (lastW_mem _ _ _ hs)).2; simp at this; omega
  have HZ := hide hsz
  clear hsz
  have H0 := hide hn0
  have H1 := hide hn1
  clear hn0 hn1 hL hLw hmany hs e
  go_enter Try.func15, Try.ntmps15
  go_wp2_with (first | (go_at_call 33; refine (has_yes _ _ _ _ (unhide h0) (unhide H0) (unhide H1)).mono ?_; rintro e w' ⟨rfl, rfl⟩) | (go_at_call 34; refine (clone_any _ _ (unhide HZ)).mono ?_; rintro e w' ⟨rfl, hb⟩))
  go_ret2
  refine ⟨rfl, ?_⟩
  exact ((Below.refl _ _).alloc (Nat.le_refl _) _).trans (hb.mono (by simp))
set_option maxHeartbeats 400000 in
set_option maxRecDepth 20000 in
theorem read_last (n : Int) (w : World) (h : DiskAt w d m c fb lb ov) (hg : m.gone = false) (hn0 : 0 ≤ n) (hn1 : n < (m.old.length : Int)) (hs : lastW m.op n.toNat = none) :
    Calls Try.prog 15 #[.pointer (some ⟨d, 0, none⟩), .int .i64 n] w fun e w' => e = .returned (.tuple #[.string (m.old.getD n.toNat ByteArray.empty), .int .i64 0]) ∧ Below w.heap.size w w' := by
  have h1 := h.cell1
  have e : pw m = m.left := by unfold pw; rw [if_neg (by rw [hg]; decide)]
  rw [e] at h1
  have hl : m.left ≠ -2 := by have := h.ok.left; omega
  have h0 := hide h.cell0
  have h2 := h.cell2
  have h3 := h.cell3
  obtain ⟨L, hL, hLw⟩ := h.la
  obtain ⟨F, nf, hF, _, hFw⟩ := h.fl
  have hmany := h.ok.many
  have hlk := hL.look_none (n := n) hn0 (by omega) ((hLw n.toNat (by omega)).trans hs)
  have hsz : (m.old.getD n.toNat ByteArray.empty).size ≤ 1000000 := by have := h.ok.old n.toNat (by omega); omega
  have hval := hFw n.toNat (by omega)
  have hn4 : n < 4096 := by omega
  have hdl := h.dlt
  have H2 : ∀ o, (w.alloc o).cell? ⟨d, 2, none⟩ = some (.map (some fb)) := fun o => by
    rw [Below.cell ((Below.refl _ _).alloc (Nat.le_refl _) o) (by exact hdl)]
    exact h2
  have HF : ∀ o, Sec (w.alloc o) fb nf F := fun o => hF.same (Below.heap_alloc _ _ _ hF.lt)
  have HZ := hide hsz
  clear hsz
  have H0 := hide hn0
  have H1 := hide hn1
  have H4 := hide hn4
  clear hn0 hn1 hn4 hL hLw hmany hs e hFw hF h2
  go_enter Try.func15, Try.ntmps15
  go_wp2_with (first | (go_at_call 33; refine (has_yes _ _ _ _ (unhide h0) (unhide H0) (unhide H1)).mono ?_; rintro e w' ⟨rfl, rfl⟩) | (go_at_call 35; refine (lasting_any _ _ _ _ _ (HF _) (unhide H0) (unhide H4)).mono ?_; rintro e w' ⟨rfl, hb1⟩; rw [hval]) | (go_at_call 34; refine (clone_any _ _ (unhide HZ)).mono ?_; rintro e w' ⟨rfl, hb⟩))
  go_ret2
  refine ⟨rfl, ?_⟩
  exact (((Below.refl _ _).alloc (Nat.le_refl _) _).trans (hb1.mono (by simp))).trans (hb.mono (by have := hb1.size; simp at this; omega))

/-- Read: the document's answer -/
theorem read_any (n : Int) (w : World) (h : DiskAt w d m c fb lb ov) :
    Calls Try.prog 15 #[.pointer (some ⟨d, 0, none⟩), .int .i64 n] w fun e w' => e = .returned (.tuple #[.string (readM m n).1, .int .i64 (readM m n).2]) ∧ Below w.heap.size w w' := by
  unfold readM
  cases hg : m.gone with
  | true => exact read_gone n w h hg
  | false =>
    rw [if_neg (by decide)]
    by_cases hn : n < 0 ∨ (m.old.length : Int) ≤ n
    · rw [if_pos hn]
      exact read_out n w h hg hn
    · rw [if_neg hn]
      cases hs : lastW m.op n.toNat with
      | none => exact read_last n w h hg (by omega) (by omega) hs
      | some s => exact read_open n s w h hg (by omega) (by omega) hs

set_option maxHeartbeats 400000 in
set_option maxRecDepth 20000 in
theorem read_nil (n : Int) (w : World) : Calls Try.prog 15 #[.pointer none, .int .i64 n] w fun e w' => e = .returned (.tuple #[.string ByteArray.empty, .int .i64 2]) ∧ w' = w := by
  go_enter Try.func15, Try.ntmps15
  go_wp2
  go_ret2
  exact ⟨rfl, rfl⟩

set_option maxHeartbeats 400000 in
theorem sectors_any (w : World) (h : DiskAt w d m c fb lb ov) :
    Calls Try.prog 24 #[.pointer (some ⟨d, 0, none⟩)] w fun e w' => e = .returned (.int .i64 (m.old.length : Int)) ∧ w' = w := by
  have h0 := h.cell0
  go_enter Try.func24, Try.ntmps24
  go_wp2
  go_ret
  exact ⟨rfl, rfl⟩
set_option maxHeartbeats 400000 in
theorem sectors_nil (w : World) : Calls Try.prog 24 #[.pointer none] w fun e w' => e = .returned (.int .i64 0) ∧ w' = w := by
  go_enter Try.func24, Try.ntmps24
  go_wp2
  go_ret
  exact ⟨rfl, rfl⟩
theorem ownsRow_form {w : World} {b : Nat} {e : TypeId} {size : Nat} {v : Value} {n : Nat} {xs : List Value} (h : w.ownsRow b e size v n xs) : ∃ a cap, v = .slice a n cap := by
  rcases h.2 with ⟨rfl, rfl⟩ | ⟨g, cap, cur, rfl, _⟩
  · exact ⟨_, _, rfl⟩
  · exact ⟨_, _, rfl⟩
set_option maxHeartbeats 400000 in
theorem open_any (w : World) (h : DiskAt w d m c fb lb ov) :
    Calls Try.prog 19 #[.pointer (some ⟨d, 0, none⟩)] w fun e w' => e = .returned (.int .i64 (m.op.length : Int)) ∧ w' = w := by
  have h4 := h.cell4
  obtain ⟨a, cap, rfl⟩ := ownsRow_form h.op
  go_enter Try.func19, Try.ntmps19
  go_wp2
  go_ret
  exact ⟨rfl, rfl⟩
set_option maxHeartbeats 400000 in
theorem open_nil (w : World) : Calls Try.prog 19 #[.pointer none] w fun e w' => e = .returned (.int .i64 0) ∧ w' = w := by
  go_enter Try.func19, Try.ntmps19
  go_wp2
  go_ret
  exact ⟨rfl, rfl⟩
set_option maxHeartbeats 400000 in
theorem down_any (w : World) (h : DiskAt w d m c fb lb ov) :
    Calls Try.prog 20 #[.pointer (some ⟨d, 0, none⟩)] w fun e w' => e = .returned (.bool m.gone) ∧ w' = w := by
  have h1 := h.cell1
  cases hg : m.gone with
  | true =>
    have e : pw m = -2 := by unfold pw; rw [if_pos hg]
    rw [e] at h1
    go_enter Try.func20, Try.ntmps20
    go_wp2
    go_ret
    exact ⟨rfl, rfl⟩
  | false =>
    have e : pw m = m.left := by unfold pw; rw [if_neg (by rw [hg]; decide)]
    rw [e] at h1
    have hl : m.left ≠ -2 := by have := h.ok.left; omega
    go_enter Try.func20, Try.ntmps20
    go_wp2
    go_ret
    simp [hl]
set_option maxHeartbeats 400000 in
theorem down_nil (w : World) : Calls Try.prog 20 #[.pointer none] w fun e w' => e = .returned (.bool true) ∧ w' = w := by
  go_enter Try.func20, Try.ntmps20
  go_wp2
  go_ret
  exact ⟨rfl, rfl⟩
end Go.Proofs.Ytmkmebogfcbphaa
