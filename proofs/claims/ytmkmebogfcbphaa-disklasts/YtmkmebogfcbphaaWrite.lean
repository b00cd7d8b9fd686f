/- What changes a disk: Write. -/
import Derived.Test.YtmkmebogfcbphaaRead
namespace Go.Proofs.Ytmkmebogfcbphaa
open Go.ChangeShapes Go.WideShapes Go.ChangeAt Go.RowKit Go.Maps

/-- a store into a map of sectors, as the walk meets it -/
theorem wp_store {ops : Array Oper} {rest : List Oper} {o : Oper} {a : Act} {Q : Exit → Act → World → Prop} {w : World} {b k : Nat} {f : Nat → Option ByteArray} {n : Int} {s : ByteArray}
    (hg : o.guard = none) (mo x v : Operand) (hop : o.op = Op.mapUpdate 55 mo x v) (hm : a.eval mo = .map (some b)) (hx : a.eval x = .int .i64 n) (hv : a.eval v = .agg #[.string s])
    (h : Sec w b k f) (h0 : 0 ≤ n) (h1 : n < 4096) (hs : s.size ≤ maxLen) (hk : k < maxLen)
    (hK : ∀ w', Sec w' b (k + 1) (put f n.toNat s) → w.grownBy w' (some b) → wpList Try.prog ops Q rest (a.put o.dst undef) w') :
    wpList Try.prog ops Q (o :: rest) a w := by
  refine wpList_plain hg fun K' hK' => ?_
  obtain ⟨w', hrun, r1, r2⟩ := h.store h0 h1 s hs hk
  unfold Oper.wp
  simp [execOp, hop, hm, hx, hv, hrun, Result.andThen]
  exact hK' _ _ (hK w' r1 r2)

/-- append of one element, which stands in a new block -/
theorem app_gen {ops : Array Oper} {rest : List Oper} {o : Oper} {a : Act} {Q : Exit → Act → World → Prop} {t e : TypeId} {z : Value} {size bytes : Nat} {B : Nat} {wr : World} {v : Value} {n : Nat} {xs news : List Value}
    (ht : Try.prog.underlying t = some (.slice e)) (hinfo : (Try.prog.info? e).map (fun i => (i.zero, i.size, i.bytes)) = some (some z, size, bytes)) (hzs : z.cells.size = size) (hsz : 0 < size)
    (hwant : Region.wanted o (yielded ops a.tmps) = true) (s x : Operand) (ho : o.op = .call { callee := .builtin .append, args := #[s, x], argTypes := #[t, t] })
    (hs : a.eval s = v) (hx : a.eval x = .slice (some ⟨wr.heap.size, 0, none⟩) 1 1) (hown : wr.ownsRow B e size v n xs) (hB : B ≤ wr.heap.size) (hnl : news.length = size) (h1 : ∀ u ∈ news, u.oneCell' = true) (hlen : (n + 1) * bytes ≤ 140737488355328) (hl2 : n + 1 ≤ 140737488355328)
    (h : ∀ a' cap' w', w'.ownsRow B e size (.slice a' (n + 1) cap') (n + 1) (xs ++ news) → wr.grownBy w' v.ownBlock → ((Value.slice a' (n + 1) cap').ownBlock = v.ownBlock ∨ ∃ g, (Value.slice a' (n + 1) cap').ownBlock = some g ∧ wr.heap.size ≤ g) → wpList Try.prog ops Q rest (a.put o.dst (.slice a' (n + 1) cap')) w') :
    wpList Try.prog ops Q (o :: rest) a (wr.alloc (.cells news.toArray e)) := by
  obtain ⟨i0, hi, hz0, hz1, hz2⟩ := info_parts hinfo
  obtain ⟨v', w', hr, ho', hg, _, hloc⟩ := run_append_own_at (P := Try.prog) (wr.alloc (.cells news.toArray e)) B t o.type e i0 z size bytes ht hi hz0 hz1 hz2 hzs hsz v n xs (World.ownsRow.alloc hown _) ⟨wr.heap.size, 0, none⟩ 1 1 news (by omega)
    (fun j u hj => by
      rw [Go.WideShapes.add_plain, Nat.zero_add]
      simpa using hj)
    h1 (by unfold maxLen; omega) hlen (by simp; omega)
  have hform : ∃ a' cap', v' = .slice a' (n + 1) cap' := by
    rcases ho'.2 with ⟨_, hn⟩ | ⟨g, cap, cur, e, _⟩
    · omega
    · exact ⟨_, _, e⟩
  obtain ⟨a', cap', rfl⟩ := hform
  refine BigFrame.wpList_want hwant fun K hK => ?_
  unfold Oper.wp execOp
  simp only [ho, resolve, invoke, builtin, Sem.run_bind, Sem.run_pure, Result.andThen_ok, List.map_toArray, List.map_cons, List.map_nil, hs, hx, hr]
  refine hK _ _ (h a' cap' w' ho' ⟨hg.os, hg.tape, hg.output, Nat.le_trans (by simp) hg.size, fun k hk hn => (hg.block k (by simp; omega) hn).trans (Below.heap_alloc _ _ _ hk)⟩ ?_)
  rcases hloc with h | h
  · exact .inl h
  · exact .inr ⟨_, h, by simp⟩

theorem info76 : (Try.prog.info? 76).map (fun i => (i.zero, i.size, i.bytes)) = some (some (.agg #[.int .i64 0, .string ByteArray.empty]), 2, 24) := by kernel_rfl

variable {d : Nat} {m : Dk} {c fb lb : Nat} {ov : Value}

theorem pw_here (hg : m.gone = false) : pw m = m.left := by unfold pw; rw [if_neg (by rw [hg]; decide)]
theorem pw_gone (hg : m.gone = true) : pw m = -2 := by unfold pw; rw [if_pos hg]

theorem spend_any (w : World) (h : DiskAt w d m c fb lb ov) (hg : m.gone = false) :
    Calls Try.prog 37 #[.pointer (some ⟨d, 0, none⟩)] w fun e w' => e = .returned (.tuple #[]) ∧ DiskAt w' d { m with left := spent m.left } c fb lb ov ∧ Moves [d] w w' := by
  have h1 := h.cell1
  rw [pw_here hg] at h1
  have hok : Ok { m with left := spent m.left } := ⟨h.ok.old, h.ok.op, spent_in h.ok.left, h.ok.many⟩
  by_cases hp : 0 < m.left
  · refine (spend_some d m.left w h1 (h.free 1) hp h.ok.left.2).mono ?_
    rintro e w' ⟨he, rfl⟩
    refine ⟨he, h.power _ _ ?_ rfl rfl hok, Moves.set _ _ _ _ (by simp)⟩
    show (if m.gone = true then (-2 : Int) else spent m.left) = m.left - 1
    rw [hg, spent, if_neg (by decide), if_pos hp]
  · refine (spend_none d m.left w h1 hp).mono ?_
    rintro e w' ⟨he, rfl⟩
    have e1 : spent m.left = m.left := by unfold spent; rw [if_neg hp]
    refine ⟨he, ?_, Moves.refl _ _⟩
    rw [e1]
    exact h

set_option maxHeartbeats 1000000 in
set_option maxRecDepth 20000 in
theorem write_gone (n : Int) (data : ByteArray) (w : World) (h : DiskAt w d m c fb lb ov) (hg : m.gone = true) :
    Calls Try.prog 16 #[.pointer (some ⟨d, 0, none⟩), .int .i64 n, .string data] w fun e w' => e = .returned (.int .i64 30) ∧ w' = w := by
  have h1 := h.cell1
  rw [pw_gone hg] at h1
  have H1 := hide h1
  clear h1
  go_enter Try.func16, Try.ntmps16
  go_wp2_with (go_at_call 36; refine (fails_gone _ _ (unhide H1)).mono ?_; rintro e w' ⟨rfl, rfl⟩)
  go_ret
  exact ⟨rfl, rfl⟩
set_option maxHeartbeats 1000000 in
set_option maxRecDepth 20000 in
theorem write_now (n : Int) (data : ByteArray) (w : World) (h : DiskAt w d m c fb lb ov) (hg : m.gone = false) (hl : m.left = 0) :
    Calls Try.prog 16 #[.pointer (some ⟨d, 0, none⟩), .int .i64 n, .string data] w fun e w' => e = .returned (.int .i64 30) ∧ w' = w.setCell ⟨d, 1, none⟩ (.int .i64 (-2)) := by
  have h1 := h.cell1
  rw [pw_here hg, hl] at h1
  have H1 := hide h1
  have H2 := hide (h.free 1)
  clear h1
  go_enter Try.func16, Try.ntmps16
  go_wp2_with (go_at_call 36; refine (fails_now _ _ (unhide H1) (unhide H2)).mono ?_; rintro e w' ⟨rfl, rfl⟩)
  go_ret
  exact ⟨rfl, rfl⟩
set_option maxHeartbeats 1000000 in
set_option maxRecDepth 20000 in
theorem write_out (n : Int) (data : ByteArray) (w : World) (h : DiskAt w d m c fb lb ov) (hg : m.gone = false) (hl : m.left ≠ 0) (hn : n < 0 ∨ (m.old.length : Int) ≤ n) :
    Calls Try.prog 16 #[.pointer (some ⟨d, 0, none⟩), .int .i64 n, .string data] w fun e w' => e = .returned (.int .i64 31) ∧ w' = w := by
  have h1 := h.cell1
  rw [pw_here hg] at h1
  have H1 := hide h1
  have hl2 : m.left ≠ -2 := by have := h.ok.left; omega
  have H2 := hide hl
  have H3 := hide hl2
  have H0 := hide h.cell0
  have HN := hide hn
  clear h1 hl hl2 hn
  go_enter Try.func16, Try.ntmps16
  go_wp2_with (first | (go_at_call 36; refine (fails_not _ _ _ (unhide H1) (unhide H3) (unhide H2)).mono ?_; rintro e w' ⟨rfl, rfl⟩) | (go_at_call 33; refine (has_no _ _ _ _ (unhide H0) (unhide HN)).mono ?_; rintro e w' ⟨rfl, rfl⟩))
  go_ret
  exact ⟨rfl, rfl⟩
set_option maxHeartbeats 1000000 in
set_option maxRecDepth 20000 in
theorem write_size (n : Int) (data : ByteArray) (w : World) (h : DiskAt w d m c fb lb ov) (hg : m.gone = false) (hl : m.left ≠ 0) (hn0 : 0 ≤ n) (hn1 : n < (m.old.length : Int)) (hs : data.size ≠ 1024) :
    Calls Try.prog 16 #[.pointer (some ⟨d, 0, none⟩), .int .i64 n, .string data] w fun e w' => e = .returned (.int .i64 32) ∧ w' = w := by
  have h1 := h.cell1
  rw [pw_here hg] at h1
  have H1 := hide h1
  have hl2 : m.left ≠ -2 := by have := h.ok.left; omega
  have H2 := hide hl
  have H3 := hide hl2
  have H0 := hide h.cell0
  have HN := hide hn0
  have HM := hide hn1
  have hs' : (data.size : Int) ≠ 1024 := by omega
  clear h1 hl hl2 hn0 hn1
  go_enter Try.func16, Try.ntmps16
  go_wp2_with (first | (go_at_call 36; refine (fails_not _ _ _ (unhide H1) (unhide H3) (unhide H2)).mono ?_; rintro e w' ⟨rfl, rfl⟩) | (go_at_call 33; refine (has_yes _ _ _ _ (unhide H0) (unhide HN) (unhide HM)).mono ?_; rintro e w' ⟨rfl, rfl⟩))
  go_ret
  exact ⟨rfl, rfl⟩
end Go.Proofs.Ytmkmebogfcbphaa
