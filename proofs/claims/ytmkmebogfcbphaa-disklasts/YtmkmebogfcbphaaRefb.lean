/- The document's disk: Read, Write. -/
import Derived.Test.YtmkmebogfcbphaaRef
namespace Go.Proofs.Ytmkmebogfcbphaa
open Go.ChangeShapes Go.WideShapes Go.ChangeAt Go.RowKit

variable {r : Nat} {m : Dk} {ov pv : Value}

theorem strs_length (l : List ByteArray) : (strs l).length = l.length := by simp [strs]
theorem strs_at (l : List ByteArray) (i : Nat) (h : i < l.length) : (strs l)[i]? = some (.string (l.getD i ByteArray.empty)) := by
  simp [strs, List.getElem?_eq_getElem h]
theorem strs_one (l : List ByteArray) : ∀ u ∈ strs l, u.oneCell' = true := by
  intro u hu
  obtain ⟨s, _, rfl⟩ := List.mem_map.1 hu
  rfl

/-- where a slice's row lies -/
theorem row_some {w : World} {e : TypeId} {size : Nat} {v : Value} {n : Nat} {xs : List Value} (h : w.ownsRow 0 e size v n xs) (hn : 0 < n) : ∃ g cap, v = .slice (some ⟨g, 0, none⟩) n cap ∧ g < w.heap.size ∧ n ≤ cap := by
  rcases h.2 with ⟨_, h0⟩ | ⟨g, cap, cur, rfl, _, hg, hc, _⟩
  · omega
  · exact ⟨g, cap, rfl, (Array.getElem?_eq_some_iff.1 hg).1, hc⟩
theorem row_cell {w : World} {e : TypeId} {size : Nat} {g n cap : Nat} {xs : List Value} (h : w.ownsRow 0 e size (.slice (some ⟨g, 0, none⟩) n cap) n xs) (j : Nat) (u : Value) (hj : xs[j]? = some u) : w.cell? ⟨g, j, none⟩ = some u := by
  have := h.cells (g := g) rfl j u hj
  rw [Go.WideShapes.add_plain, Nat.zero_add] at this
  exact this

set_option maxHeartbeats 1000000 in
set_option maxRecDepth 20000 in
theorem rread_gone (n : Int) (w : World) (h : RefAt w r m ov pv) (hg : m.gone = true) :
    Calls Try.prog 29 #[.pointer (some ⟨r, 0, none⟩), .int .i64 n] w fun e w' => e = .returned (.tuple #[.string ByteArray.empty, .int .i64 30]) ∧ w' = w := by
  have c3 := h.cell3
  rw [hg] at c3
  go_enter Try.func29, Try.ntmps29
  go_wp2
  go_ret2
  exact ⟨rfl, rfl⟩
set_option maxHeartbeats 1000000 in
set_option maxRecDepth 20000 in
theorem rread_out (n : Int) (w : World) (h : RefAt w r m ov pv) (hg : m.gone = false) (hn : n < 0 ∨ (m.old.length : Int) ≤ n) :
    Calls Try.prog 29 #[.pointer (some ⟨r, 0, none⟩), .int .i64 n] w fun e w' => e = .returned (.tuple #[.string ByteArray.empty, .int .i64 31]) ∧ w' = w := by
  have c3 := h.cell3
  rw [hg] at c3
  have c0 := h.cell0
  obtain ⟨a, cap, rfl⟩ := ownsRow_form h.old
  by_cases h1 : n < 0
  · go_enter Try.func29, Try.ntmps29
    go_wp2
    go_ret2
    exact ⟨rfl, rfl⟩
  · have h2 : (m.old.length : Int) ≤ n := by omega
    go_enter Try.func29, Try.ntmps29
    go_wp2
    go_ret2
    exact ⟨rfl, rfl⟩

set_option maxHeartbeats 2000000 in
set_option maxRecDepth 20000 in
theorem rread_in (n : Int) (w : World) (h : RefAt w r m ov pv) (hg : m.gone = false) (h0 : 0 ≤ n) (h1 : n < (m.old.length : Int)) (hc : m.op.length ≤ 1000000) :
    Calls Try.prog 29 #[.pointer (some ⟨r, 0, none⟩), .int .i64 n] w fun e w' => e = .returned (.tuple #[.string ((lastW m.op n.toNat).getD (m.old.getD n.toNat ByteArray.empty)), .int .i64 0]) ∧ w' = w := by
  have c3 := h.cell3
  rw [hg] at c3
  have c0 := h.cell0
  have c1 := h.cell1
  obtain ⟨g, cap, rfl, hgl, hcap⟩ := row_some h.old (by omega)
  obtain ⟨ap, capp, rfl⟩ := ownsRow_form h.op
  have q0 := row_cell h.old n.toNat _ (strs_at m.old n.toNat (by omega))
  have HOP := hide h.op
  have h2 : ¬ n < 0 := by omega
  have h3 : ¬ (m.old.length : Int) ≤ n := by omega
  clear h hgl hcap
  generalize m.old.getD n.toNat ByteArray.empty = s0 at *
  go_enter Try.func29, Try.ntmps29
  go_wp2_with fail
  go_loopw [6, 7] (fun t j wr => ∃ k : Nat, k ≤ m.op.length ∧ j = .int .i64 (k : Int) ∧ t = .string ((lastW (m.op.take k) n.toNat).getD s0) ∧ wr = w) (fun _ j _ => m.op.length - (intOf j).toNat)
  case atStart => exact ⟨0, Nat.zero_le _, rfl, rfl, rfl⟩
  case round =>
    obtain ⟨k, hk, rfl, rfl, rfl⟩ := hrel
    have hk6 : k ≤ 1000000 := by omega
    by_cases hlt : k < m.op.length
    · have hlt' : (k : Int) < (m.op.length : Int) := by omega
      obtain ⟨gp, capq, ep, _, _⟩ := row_some (unhide HOP) (by omega)
      cases ep
      have q1 := row_cell (unhide HOP) (k * 2) _ (opCells_at m.op k hlt).1
      have q2 := row_cell (unhide HOP) (k * 2 + 1) _ (opCells_at m.op k hlt).2
      have htk : m.op.take (k + 1) = m.op.take k ++ [m.op[k]] := by rw [List.take_add_one, List.getElem?_eq_getElem hlt]; rfl
      have hlw := lastW_snoc (m.op.take k) m.op[k] n.toNat
      rw [← htk] at hlw
      have HLW := hide hlw
      clear htk hlw
      generalize m.op[k].1 = x at *
      generalize m.op[k].2 = s at *
      generalize (lastW (m.op.take k) n.toNat) = L0 at *
      by_cases hx : (x : Int) = n
      · have hxn : x = n.toNat := by omega
        go_wp2
        go_roundw
        case rel =>
          refine ⟨k + 1, by omega, by go_num, ?_, trivial⟩
          rw [unhide HLW, if_pos hxn]
          rfl
        case measure => simp [intOf]; omega
      · have hxn : ¬ x = n.toNat := by omega
        go_wp2
        go_roundw
        case rel =>
          refine ⟨k + 1, by omega, by go_num, ?_, trivial⟩
          rw [unhide HLW, if_neg hxn]
        case measure => simp [intOf]; omega
    · have hlt' : ¬ (k : Int) < (m.op.length : Int) := by omega
      have hkl : m.op.take k = m.op := List.take_of_length_le (by omega)
      rw [hkl]
      clear hkl
      go_wp2
      go_ret2
      exact ⟨rfl, rfl⟩
theorem rread_any (n : Int) (w : World) (h : RefAt w r m ov pv) (hc : m.op.length ≤ 1000000) :
    Calls Try.prog 29 #[.pointer (some ⟨r, 0, none⟩), .int .i64 n] w fun e w' => e = .returned (.tuple #[.string (readM m n).1, .int .i64 (readM m n).2]) ∧ w' = w := by
  unfold readM
  cases hg : m.gone with
  | true => exact rread_gone n w h hg
  | false =>
    rw [if_neg (by decide)]
    by_cases hn : n < 0 ∨ (m.old.length : Int) ≤ n
    · rw [if_pos hn]
      exact rread_out n w h hg hn
    · rw [if_neg hn]
      exact rread_in n w h hg (by omega) (by omega) hc
end Go.Proofs.Ytmkmebogfcbphaa
