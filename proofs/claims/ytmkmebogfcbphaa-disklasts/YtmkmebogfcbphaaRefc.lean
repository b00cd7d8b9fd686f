/- The document's disk: Write. -/
import Derived.Test.YtmkmebogfcbphaaRefb
namespace Go.Proofs.Ytmkmebogfcbphaa
open Go.ChangeShapes Go.WideShapes Go.ChangeAt Go.RowKit

variable {r : Nat} {m : Dk} {ov pv : Value}

theorem info82 : (Try.prog.info? 82).map (fun i => (i.zero, i.size, i.bytes)) = some (some (.agg #[.int .i64 0, .string ByteArray.empty]), 2, 24) := by kernel_rfl
theorem info9 : (Try.prog.info? 9).map (fun i => (i.zero, i.size, i.bytes)) = some (some (.string ByteArray.empty), 1, 16) := by kernel_rfl

theorem RefAt.written {w w5 : World} {n : Nat} {s : ByteArray} {pv' : Value} (h : RefAt w r m ov pv) (hn : n < m.old.length) (hs : s.size = 1024)
    (hown : w5.ownsRow 0 82 2 pv' (m.op.length + 1) (opCells (m.op ++ [(n, s)]))) (hg5 : w.grownBy w5 pv.ownBlock) (hloc : pv'.ownBlock = pv.ownBlock ∨ ∃ g, pv'.ownBlock = some g ∧ w.heap.size ≤ g) :
    RefAt (w5.setCell ⟨r, 1, none⟩ pv') r { m with op := m.op ++ [(n, s)] } ov pv' ∧ Moves (rfOf r ov pv) w (w5.setCell ⟨r, 1, none⟩ pv') ∧ ∀ x ∈ rfOf r ov pv', x ∈ rfOf r ov pv ∨ w.heap.size ≤ x := by
  have hm5 : Moves (rfOf r ov pv) w w5 := Moves.of_grown hg5 (fun k hk => by simp [rfOf, hk])
  have hm6 : Moves (rfOf r ov pv) w5 (w5.setCell ⟨r, 1, none⟩ pv') := Moves.set _ _ _ _ (by simp [rfOf])
  have hr5 : w5.heap[r]? = w.heap[r]? := hg5.block r h.rlt (fun e => h.np e.symm)
  have hnp : pv'.ownBlock ≠ some r := by
    rcases hloc with e | ⟨g, e, hg⟩
    · rw [e]; exact h.np
    · rw [e]
      have := h.rlt
      simp
      omega
  refine ⟨⟨?_, ?_, ?_, ?_⟩, hm5.then hm6, ?_⟩
  · have hb := hr5.trans h.blk
    simp [World.setCell, Array.getElem?_modify, hb]
  · exact ownsRow_same h.old (fun g hg => (Below.heap_setCell _ _ _ _ (by intro e; exact h.no (by rw [hg, e]))).trans (hg5.block g (h.old.lt g hg).2 (fun e => h.nn g hg e.symm)))
  · show World.ownsRow _ 0 82 2 pv' (m.op ++ [(n, s)]).length _
    rw [List.length_append]
    exact ownsRow_same hown (fun g hg => Below.heap_setCell _ _ _ _ (by intro e; exact hnp (by rw [hg, e])))
  · refine ⟨h.ok.old, ?_, h.ok.left, h.ok.many⟩
    intro p hp
    rcases List.mem_append.1 hp with hp | hp
    · exact h.ok.op p hp
    · simp at hp
      subst hp
      exact ⟨hn, hs⟩
  · intro x hx
    simp [rfOf] at hx ⊢
    rcases hx with rfl | hx | hx
    · simp
    · simp [hx]
    · rcases hloc with e | ⟨g, e, hg⟩
      · rw [e] at hx
        simp [hx]
      · rw [e] at hx
        cases hx
        exact .inr hg

set_option maxHeartbeats 1000000 in
set_option maxRecDepth 20000 in
theorem rwrite_gone (n : Int) (data : ByteArray) (w : World) (h : RefAt w r m ov pv) (hg : m.gone = true) :
    Calls Try.prog 27 #[.pointer (some ⟨r, 0, none⟩), .int .i64 n, .string data] w fun e w' => e = .returned (.int .i64 30) ∧ w' = w := by
  have c3 := h.cell3
  rw [hg] at c3
  clear h
  go_enter Try.func27, Try.ntmps27
  go_wp2
  go_ret
  exact ⟨rfl, rfl⟩
set_option maxHeartbeats 1000000 in
set_option maxRecDepth 20000 in
theorem rwrite_out (n : Int) (data : ByteArray) (w : World) (h : RefAt w r m ov pv) (hg : m.gone = false) (hn : n < 0 ∨ (m.old.length : Int) ≤ n) :
    Calls Try.prog 27 #[.pointer (some ⟨r, 0, none⟩), .int .i64 n, .string data] w fun e w' => (m.left = 0 → e = .returned (.int .i64 30) ∧ w' = w.setCell ⟨r, 3, none⟩ (.bool true)) ∧ (m.left ≠ 0 → e = .returned (.int .i64 31) ∧ w' = w) := by
  have c3 := h.cell3
  rw [hg] at c3
  have c2 := h.cell2
  have c0 := h.cell0
  have f3 := h.free 3
  obtain ⟨a, cap, rfl⟩ := ownsRow_form h.old
  clear h
  by_cases hl : m.left = 0
  · rw [hl] at c2
    by_cases h1 : n < 0
    · go_enter Try.func27, Try.ntmps27
      go_wp2
      go_ret
      first | exact ⟨rfl, rfl⟩ | exact ⟨fun _ => ⟨rfl, rfl⟩, fun h => absurd hl h⟩
    · have h2 : (m.old.length : Int) ≤ n := by omega
      go_enter Try.func27, Try.ntmps27
      go_wp2
      go_ret
      first | exact ⟨rfl, rfl⟩ | exact ⟨fun _ => ⟨rfl, rfl⟩, fun h => absurd hl h⟩
  · by_cases h1 : n < 0
    · go_enter Try.func27, Try.ntmps27
      go_wp2
      go_ret
      first | exact ⟨rfl, rfl⟩ | exact ⟨fun h => absurd h hl, fun _ => ⟨rfl, rfl⟩⟩
    · have h2 : (m.old.length : Int) ≤ n := by omega
      go_enter Try.func27, Try.ntmps27
      go_wp2
      go_ret
      first | exact ⟨rfl, rfl⟩ | exact ⟨fun h => absurd h hl, fun _ => ⟨rfl, rfl⟩⟩
set_option maxHeartbeats 1000000 in
set_option maxRecDepth 20000 in
theorem rwrite_size (n : Int) (data : ByteArray) (w : World) (h : RefAt w r m ov pv) (hg : m.gone = false) (h0 : 0 ≤ n) (h1 : n < (m.old.length : Int)) (hs : data.size ≠ 1024) :
    Calls Try.prog 27 #[.pointer (some ⟨r, 0, none⟩), .int .i64 n, .string data] w fun e w' => (m.left = 0 → e = .returned (.int .i64 30) ∧ w' = w.setCell ⟨r, 3, none⟩ (.bool true)) ∧ (m.left ≠ 0 → e = .returned (.int .i64 32) ∧ w' = w) := by
  have c3 := h.cell3
  rw [hg] at c3
  have c2 := h.cell2
  have c0 := h.cell0
  have f3 := h.free 3
  obtain ⟨a, cap, rfl⟩ := ownsRow_form h.old
  have h2 : ¬ n < 0 := by omega
  have h3 : ¬ (m.old.length : Int) ≤ n := by omega
  have hs' : (data.size : Int) ≠ 1024 := by omega
  clear h
  by_cases hl : m.left = 0
  · rw [hl] at c2
    go_enter Try.func27, Try.ntmps27
    go_wp2
    go_ret
    first | exact ⟨rfl, rfl⟩ | exact ⟨fun _ => ⟨rfl, rfl⟩, fun h => absurd hl h⟩
  · go_enter Try.func27, Try.ntmps27
    go_wp2
    go_ret
    first | exact ⟨rfl, rfl⟩ | exact ⟨fun h => absurd h hl, fun _ => ⟨rfl, rfl⟩⟩
set_option maxHeartbeats 1000000 in
set_option maxRecDepth 20000 in
theorem rwrite_now (n : Int) (data : ByteArray) (w : World) (h : RefAt w r m ov pv) (hg : m.gone = false) (h0 : 0 ≤ n) (h1 : n < (m.old.length : Int)) (hs : data.size = 1024) (hl : m.left = 0) :
    Calls Try.prog 27 #[.pointer (some ⟨r, 0, none⟩), .int .i64 n, .string data] w fun e w' => e = .returned (.int .i64 30) ∧ RefAt w' r { m with gone := true } ov pv ∧ Moves [r] w w' := by
  have c3 := h.cell3
  rw [hg] at c3
  have c0 := h.cell0
  have H := hide h
  obtain ⟨a, cap, rfl⟩ := ownsRow_form h.old
  have h2 : ¬ n < 0 := by omega
  have h3 : ¬ (m.old.length : Int) ≤ n := by omega
  have hs' : (data.size : Int) = 1024 := by omega
  have HL := hide hl
  clear h hl hs
  go_enter Try.func27, Try.ntmps27
  go_wp2_with (go_at_call 42; refine (rspend_now _ (unhide H) (unhide HL)).mono ?_; rintro e w1 ⟨rfl, hA, hm⟩)
  go_ret
  exact ⟨rfl, hA, hm⟩
set_option maxHeartbeats 2000000 in
set_option maxRecDepth 20000 in
theorem rwrite_ok (n : Int) (data : ByteArray) (w : World) (h : RefAt w r m ov pv) (hg : m.gone = false) (h0 : 0 ≤ n) (h1 : n < (m.old.length : Int)) (hs : data.size = 1024) (hl : m.left ≠ 0) (hc : m.op.length ≤ 1000000) :
    Calls Try.prog 27 #[.pointer (some ⟨r, 0, none⟩), .int .i64 n, .string data] w fun e w' => e = .returned (.int .i64 0) ∧
      ∃ pv', RefAt w' r { m with left := spent m.left, op := m.op ++ [(n.toNat, data)] } ov pv' ∧ Moves (rfOf r ov pv) w w' ∧ ∀ x ∈ rfOf r ov pv', x ∈ rfOf r ov pv ∨ w.heap.size ≤ x := by
  have c3 := h.cell3
  rw [hg] at c3
  have c0 := h.cell0
  have H := hide h
  obtain ⟨a, cap, rfl⟩ := ownsRow_form h.old
  have h2 : ¬ n < 0 := by omega
  have h3 : ¬ (m.old.length : Int) ≤ n := by omega
  have hs' : (data.size : Int) = 1024 := by omega
  have hnn : n.toNat < m.old.length := by omega
  have en : ((n.toNat : Nat) : Int) = n := Int.toNat_of_nonneg h0
  have HNN := hide hnn
  have EN := hide en
  have HL := hide hl
  have HO := hide hc
  have HS := hide hs
  have HG := hide hg
  clear h hl hs hnn en hc hg
  go_enter Try.func27, Try.ntmps27
  go_wp2_with (first
    | (go_at_call 42; refine (rspend_any _ (unhide H) (unhide HL)).mono ?_; rintro e w1 ⟨rfl, hA, hm⟩; have k1 := hA.cell1; have HA := hide hA; have HM := hide hm; clear hA hm)
    | (at_builtin; refine app_gen (v := pv) (news := [.int .i64 n, .string data]) Try.underlying56 info82 rfl (by decide) rfl _ _ rfl rfl rfl (unhide HA).op (Nat.zero_le _) rfl (by intro u hu; simp at hu; rcases hu with rfl | rfl <;> rfl) (by have := unhide HO; show (m.op.length + 1) * 24 ≤ _; omega) (by have := unhide HO; show m.op.length + 1 ≤ _; omega) ?_; intro a5 cap5 w5 hown5 hg5 hloc; have hc5 := hg5.cell k1 (by have := (unhide HA).np; exact fun e => this e.symm); have hfr : w5.frozen? ⟨r, 1, none⟩ = false := (grown_frozen hg5 (unhide HA).rlt (by have := (unhide HA).np; exact fun e => this e.symm) 1).trans ((unhide HA).free 1); have HX := hide (And.intro hown5 (And.intro hg5 hloc)); clear hown5 hg5 hloc)
    | go_in)
  go_ret
  obtain ⟨hown5, hg5, hloc⟩ := unhide HX
  have hown6 : w5.ownsRow 0 82 2 (.slice a5 (m.op.length + 1) cap5) (m.op.length + 1) (opCells (m.op ++ [(n.toNat, data)])) := by
    rw [opCells_snoc]
    show w5.ownsRow 0 82 2 (.slice a5 (m.op.length + 1) cap5) (m.op.length + 1) (opCells m.op ++ [.int .i64 ((n.toNat : Nat) : Int), .string data])
    rw [unhide EN]
    exact hown5
  obtain ⟨r1, r2, r3⟩ := (unhide HA).written (unhide HNN) (unhide HS) hown6 hg5 hloc
  have hm := unhide HM
  refine ⟨rfl, _, r1, (hm.mono (fun x hx => .inl (by simp at hx; simp [rfOf, hx]))).then r2, fun x hx => ?_⟩
  rcases r3 x hx with h | h
  · exact .inl h
  · exact .inr (Nat.le_trans hm.size h)

theorem rwrite_any (n : Int) (data : ByteArray) (fp : List Nat) (w : World) (h0 : IsRef w r m fp) (hc : m.op.length ≤ 1000000) :
    Calls Try.prog 27 #[.pointer (some ⟨r, 0, none⟩), .int .i64 n, .string data] w fun e w' => e = .returned (.int .i64 (writeE m n data)) ∧ RTurned w w' r (writeM m n data) fp := by
  have h0' := h0.stays
  obtain ⟨ov, pv, h, rfl⟩ := h0
  unfold writeE writeM
  cases hg : m.gone with
  | true =>
    refine (rwrite_gone n data w h hg).mono ?_
    rintro e w' ⟨rfl, rfl⟩
    exact ⟨rfl, h0'⟩
  | false =>
    simp only [Bool.false_eq_true, if_false]
    have hgo : RTurned w (w.setCell ⟨r, 3, none⟩ (.bool true)) r { m with gone := true } (rfOf r ov pv) := ⟨_, ⟨ov, pv, h.goes, rfl⟩, Moves.set _ _ _ _ (by simp [rfOf]), fun _ hx => .inl hx⟩
    by_cases hn : n < 0 ∨ (m.old.length : Int) ≤ n
    · refine (rwrite_out n data w h hg hn).mono ?_
      rintro e w' ⟨r1, r2⟩
      by_cases hl : m.left = 0
      · obtain ⟨rfl, rfl⟩ := r1 hl
        rw [if_pos hl, if_pos hl]
        exact ⟨rfl, hgo⟩
      · obtain ⟨rfl, rfl⟩ := r2 hl
        rw [if_neg hl, if_neg hl, if_pos hn, if_pos hn]
        exact ⟨rfl, h0'⟩
    · by_cases hs : data.size = 1024
      · by_cases hl : m.left = 0
        · rw [if_pos hl, if_pos hl]
          refine (rwrite_now n data w h hg (by omega) (by omega) hs hl).mono ?_
          rintro e w' ⟨rfl, hA, hm⟩
          exact ⟨rfl, _, ⟨ov, pv, hA, rfl⟩, hm.mono (fun x hx => .inl (by simp at hx; simp [rfOf, hx])), fun _ hx => .inl hx⟩
        · rw [if_neg hl, if_neg hl, if_neg hn, if_neg hn, if_neg (by omega), if_neg (by omega)]
          refine (rwrite_ok n data w h hg (by omega) (by omega) hs hl hc).mono ?_
          rintro e w' ⟨rfl, pv', r1, r2, r3⟩
          rw [hg] at r1
          exact ⟨rfl, _, ⟨ov, pv', r1, rfl⟩, r2, r3⟩
      · refine (rwrite_size n data w h hg (by omega) (by omega) hs).mono ?_
        rintro e w' ⟨r1, r2⟩
        by_cases hl : m.left = 0
        · obtain ⟨rfl, rfl⟩ := r1 hl
          rw [if_pos hl, if_pos hl]
          exact ⟨rfl, hgo⟩
        · obtain ⟨rfl, rfl⟩ := r2 hl
          rw [if_neg hl, if_neg hl, if_neg hn, if_neg hn, if_pos hs, if_pos hs]
          exact ⟨rfl, h0'⟩
end Go.Proofs.Ytmkmebogfcbphaa
