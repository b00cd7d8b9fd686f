/- What changes a disk: Flush, Power. -/
import Derived.Test.YtmkmebogfcbphaaWriteb
import Derived.Deep.RegionHeld3
namespace Go.Proofs.Ytmkmebogfcbphaa
open Go.ChangeShapes Go.WideShapes Go.ChangeAt Go.RowKit Go.Maps

theorem wp_clear {ops : Array Oper} {rest : List Oper} {o : Oper} {a : Act} {Q : Exit → Act → World → Prop} {w : World} {b k : Nat} {f : Nat → Option ByteArray}
    (hg : o.guard = none) (x : Operand) (hop : o.op = .call { callee := .builtin .clear, args := #[x], argTypes := #[55] }) (hx : a.eval x = .map (some b)) (h : Sec w b k f)
    (hK : ∀ w', Sec w' b 0 (fun _ => none) → w.grownBy w' (some b) → wpList Try.prog ops Q rest (a.put o.dst (.tuple #[])) w') :
    wpList Try.prog ops Q (o :: rest) a w := by
  refine wpList_plain hg fun K' hK' => ?_
  obtain ⟨w', hrun, r1, r2⟩ := h.clear o.type
  unfold Oper.wp execOp
  simp only [hop, resolve, invoke, builtin, Sem.run_bind, Sem.run_pure, Result.andThen_ok, List.map_toArray, List.map_cons, List.map_nil, hx, hrun]
  exact hK' _ _ (hK w' r1 r2)

variable {d : Nat} {m : Dk} {c fb lb : Nat} {ov : Value}

/-- what a flush has left in memory -/
theorem DiskAt.flushed {w w3 w4 : World} {F L : Nat → Option ByteArray} {nf : Nat} (h : DiskAt w d m c fb lb ov) (hnf : nf + m.op.length ≤ c)
    (hF : ∀ i, i < m.old.length → (F i).getD zeros = m.old.getD i ByteArray.empty) (hL : ∀ i, i < m.old.length → L i = lastW m.op i)
    (h3 : Sec w3 fb (nf + m.op.length) (over F L)) (hg3 : w.grownBy w3 (some fb)) (h4 : Sec w4 lb 0 (fun _ => none)) (hg4 : w3.grownBy w4 (some lb)) :
    DiskAt (w4.setCell ⟨d, 4, none⟩ (.slice none 0 0)) d { m with old := flushL m.old m.op, op := [] } c fb lb (.slice none 0 0) ∧ Moves (fpOf d fb lb ov) w (w4.setCell ⟨d, 4, none⟩ (.slice none 0 0)) := by
  have hm3 : Moves (fpOf d fb lb ov) w w3 := Moves.of_grown hg3 (fun k hk => by cases hk; simp [fpOf])
  have hm4 : Moves (fpOf d fb lb ov) w3 w4 := Moves.of_grown hg4 (fun k hk => by cases hk; simp [fpOf])
  have hm6 : Moves (fpOf d fb lb ov) w4 (w4.setCell ⟨d, 4, none⟩ (.slice none 0 0)) := Moves.set _ _ _ _ (by simp [fpOf])
  have hd3 : w3.heap[d]? = w.heap[d]? := hg3.block d h.dlt (fun e => h.df (Option.some.inj e))
  have hd4 : w4.heap[d]? = w.heap[d]? := (hg4.block d (Nat.lt_of_lt_of_le h.dlt hg3.size) (fun e => h.dl (Option.some.inj e))).trans hd3
  have hf4 : w4.heap[fb]? = w3.heap[fb]? := hg4.block fb h3.lt (fun e => h.ne (Option.some.inj e))
  refine ⟨⟨?_, ⟨over F L, _, h3.same ((Below.heap_setCell _ _ _ _ (by have := h.df; simp; omega)).trans hf4), ?_, ?_⟩, ⟨fun _ => none, ?_, fun i _ => rfl⟩, World.ownsRow_nil _ _ _ _, h.ne, by simp [Value.ownBlock], ?_⟩, (hm3.then hm4).then hm6⟩
  · have hb := hd4.trans h.blk
    simp [World.setCell, Array.getElem?_modify, hb, flushL_length]
    rfl
  · exact hnf
  · intro i hi
    have hi' : i < m.old.length := by rw [show ({ m with old := flushL m.old m.op, op := [] } : Dk).old = flushL m.old m.op from rfl, flushL_length] at hi; exact hi
    show (over F L i).getD zeros = (flushL m.old m.op).getD i ByteArray.empty
    rw [flushL_get _ _ _ hi', ← hL i hi', ← hF i hi']
    unfold over
    cases L i <;> rfl
  · exact h4.same (Below.heap_setCell _ _ _ _ (by have := h.dl; simp; omega))
  · have := ok_flush (m := { m with gone := false, left := -1 }) ⟨h.ok.old, h.ok.op, by show (-1 : Int) ≤ -1 ∧ (-1 : Int) ≤ 9223372036854775807; omega, h.ok.many⟩
    exact ⟨this.old, (fun p hp => absurd hp List.not_mem_nil), h.ok.left, this.many⟩

set_option maxHeartbeats 1000000 in
set_option maxRecDepth 20000 in
theorem flush_gone (w : World) (h : DiskAt w d m c fb lb ov) (hg : m.gone = true) :
    Calls Try.prog 22 #[.pointer (some ⟨d, 0, none⟩)] w fun e w' => e = .returned (.int .i64 30) ∧ w' = w := by
  have h1 := h.cell1
  rw [pw_gone hg] at h1
  have H1 := hide h1
  clear h1
  go_enter Try.func22, Try.ntmps22
  go_wp2_with (go_at_call 36; refine (fails_gone _ _ (unhide H1)).mono ?_; rintro e w' ⟨rfl, rfl⟩)
  go_ret
  exact ⟨rfl, rfl⟩
set_option maxHeartbeats 1000000 in
set_option maxRecDepth 20000 in
theorem flush_now (w : World) (h : DiskAt w d m c fb lb ov) (hg : m.gone = false) (hl : m.left = 0) :
    Calls Try.prog 22 #[.pointer (some ⟨d, 0, none⟩)] w fun e w' => e = .returned (.int .i64 30) ∧ w' = w.setCell ⟨d, 1, none⟩ (.int .i64 (-2)) := by
  have h1 := h.cell1
  rw [pw_here hg, hl] at h1
  have H1 := hide h1
  have H2 := hide (h.free 1)
  clear h1
  go_enter Try.func22, Try.ntmps22
  go_wp2_with (go_at_call 36; refine (fails_now _ _ (unhide H1) (unhide H2)).mono ?_; rintro e w' ⟨rfl, rfl⟩)
  go_ret
  exact ⟨rfl, rfl⟩

set_option maxHeartbeats 2000000 in
set_option maxRecDepth 20000 in
theorem flush_ok (w : World) (h : DiskAt w d m c fb lb ov) (hg : m.gone = false) (hl : m.left ≠ 0) (hc : c ≤ 1000000) :
    Calls Try.prog 22 #[.pointer (some ⟨d, 0, none⟩)] w fun e w' => e = .returned (.int .i64 0) ∧
      DiskAt w' d { m with left := spent m.left, old := flushL m.old m.op, op := [] } c fb lb (.slice none 0 0) ∧ Moves (fpOf d fb lb ov) w w' := by
  have h1 := h.cell1
  rw [pw_here hg] at h1
  have H1 := hide h1
  have hl2 : m.left ≠ -2 := by have := h.ok.left; omega
  have H2 := hide hl
  have H3 := hide hl2
  have HA : Hid (DiskAt w d m c fb lb ov) := h
  have HG := hide hg
  have HC := hide hc
  clear h1 hl hl2 h hg hc
  go_enter Try.func22, Try.ntmps22
  go_wp2_with (first
    | (go_at_call 36; refine (fails_not _ _ _ (unhide H1) (unhide H3) (unhide H2)).mono ?_; rintro e w' ⟨rfl, rfl⟩)
    | (go_at_call 37; refine (spend_any _ (unhide HA) (unhide HG)).mono ?_; rintro e w1 ⟨rfl, hA1, hm1⟩; have HA1 := hide hA1; have HM1 := hide hm1; clear hA1 hm1))
  have HA2 : Hid (DiskAt w1.drew d { m with left := spent m.left } c fb lb ov) := (unhide HA1).grow (Below.refl _ _).drew
  obtain ⟨F, nf, hF, hnf, hFw⟩ := (unhide HA2).fl
  obtain ⟨L, hL, hLw⟩ := (unhide HA2).la
  have HF := hide hF
  have HL := hide hL
  have HN := hide hnf
  have HFW := hide hFw
  have HLW := hide hLw
  clear hF hL hnf hFw hLw
  have c2 := (unhide HA2).cell2
  have c3 := (unhide HA2).cell3
  go_region_held3 (fun w' => w'.cell? ⟨d, 2, none⟩ = some (.map (some fb)) ∧ w'.cell? ⟨d, 3, none⟩ = some (.map (some lb)))
    (first | assumption | exact ⟨c2, c3⟩ | exact ⟨hc2, hc3⟩)
    (first
      | (go_at_call 40; go_split_ands; refine (mcopy_any fb lb nf m.op.length F L _ (unhide HF) (unhide HL) (unhide HA2).ne (by have := unhide HN; have := unhide HC; unfold maxLen; have h5 : nf + m.op.length ≤ c := unhide HN; omega)).mono ?_; rintro x w3 ⟨rfl, hS3, hg3⟩; have hc2 := hg3.cell c2 (by have := (unhide HA2).df; simp; exact this); have hc3 := hg3.cell c3 (by have := (unhide HA2).df; simp; exact this); have HS3 := hide hS3; have HG3 := hide hg3; clear hS3 hg3))
  go_wp2_with (first | (refine wp_clear (b := lb) rfl _ rfl rfl ((unhide HL).same ((unhide HG3).block _ (unhide HL).lt (by have := (unhide HA2).ne; simp; omega))) ?_; intro w4 hS4 hg4; have hfr : w4.frozen? ⟨d, 4, none⟩ = false := ((grown_frozen hg4 (Nat.lt_of_lt_of_le (unhide HA2).dlt (unhide HG3).size) (by have := (unhide HA2).dl; simp; exact this) 4).trans (grown_frozen (unhide HG3) (unhide HA2).dlt (by have := (unhide HA2).df; simp; exact this) 4)).trans ((unhide HA2).free 4); have hc4 := hg4.cell ((unhide HG3).cell (unhide HA2).cell4 (by have := (unhide HA2).df; simp; exact this)) (by have := (unhide HA2).dl; simp; exact this); have HS4 := hide hS4; have HG4 := hide hg4; clear hS4 hg4) | go_in)
  go_ret
  obtain ⟨r1, r2⟩ := (unhide HA2).flushed (unhide HN) (unhide HFW) (unhide HLW) (unhide HS3) (unhide HG3) (unhide HS4) (unhide HG4)
  have hm1 := unhide HM1
  exact ⟨rfl, r1, ((hm1.mono (fun x hx => .inl (by simp at hx; simp [fpOf, hx]))).then (Moves.of_below _ (Below.refl _ _).drew)).then r2⟩

theorem flush_any (fp : List Nat) (w : World) (h0 : IsDisk w d m c fp) (hc : c ≤ 1000000) :
    Calls Try.prog 22 #[.pointer (some ⟨d, 0, none⟩)] w fun e w' => e = .returned (.int .i64 (flushE m)) ∧ Turned w w' d (flushM m) c fp := by
  have h0' := h0.stays
  obtain ⟨fb, lb, ov, h, rfl⟩ := h0
  unfold flushE flushM
  cases hg : m.gone with
  | true =>
    refine (flush_gone w h hg).mono ?_
    rintro e w' ⟨rfl, rfl⟩
    exact ⟨rfl, h0'⟩
  | false =>
    simp only [Bool.false_eq_true, if_false]
    by_cases hl : m.left = 0
    · rw [if_pos hl, if_pos hl]
      refine (flush_now w h hg hl).mono ?_
      rintro e w' ⟨rfl, rfl⟩
      exact ⟨rfl, _, ⟨fb, lb, ov, h.power { m with gone := true } (-2) rfl rfl rfl ⟨h.ok.old, h.ok.op, h.ok.left, h.ok.many⟩, rfl⟩, Moves.set _ _ _ _ (by simp [fpOf]), fun _ hx => .inl hx⟩
    · rw [if_neg hl, if_neg hl]
      refine (flush_ok w h hg hl hc).mono ?_
      rintro e w' ⟨rfl, r1, r2⟩
      rw [hg] at r1
      refine ⟨rfl, _, ⟨fb, lb, _, r1, rfl⟩, r2, fun x hx => .inl ?_⟩
      simp [fpOf, Value.ownBlock] at hx ⊢
      rcases hx with h | h | h <;> simp [h]
set_option maxHeartbeats 400000 in
theorem flush_nil (w : World) : Calls Try.prog 22 #[.pointer none] w fun e w' => e = .returned (.int .i64 2) ∧ w' = w := by
  go_enter Try.func22, Try.ntmps22
  go_wp2
  go_ret
  exact ⟨rfl, rfl⟩

/-! Power -/
set_option maxHeartbeats 1000000 in
theorem power_gone (x : Int) (w : World) (h : DiskAt w d m c fb lb ov) (hg : m.gone = true) :
    Calls Try.prog 21 #[.pointer (some ⟨d, 0, none⟩), .int .i64 x] w fun e w' => e = .returned (.tuple #[]) ∧ w' = w := by
  have h1 := h.cell1
  rw [pw_gone hg] at h1
  go_enter Try.func21, Try.ntmps21
  go_wp2
  refine bodyPost_ret (results_none rfl _ _ _) rfl ?_
  exact ⟨rfl, rfl⟩
set_option maxHeartbeats 1000000 in
set_option maxRecDepth 20000 in
theorem power_here (x : Int) (w : World) (h : DiskAt w d m c fb lb ov) (hg : m.gone = false) :
    Calls Try.prog 21 #[.pointer (some ⟨d, 0, none⟩), .int .i64 x] w fun e w' => e = .returned (.tuple #[]) ∧ w' = w.setCell ⟨d, 1, none⟩ (.int .i64 (max x (-1))) := by
  have h1 := h.cell1
  rw [pw_here hg] at h1
  have hl2 : m.left ≠ -2 := by have := h.ok.left; omega
  have hf := h.free 1
  go_enter Try.func21, Try.ntmps21
  go_wp2
  go_end0
  exact ⟨rfl, rfl⟩
theorem power_any (x : Int) (hx : x ≤ 9223372036854775807) (fp : List Nat) (w : World) (h0 : IsDisk w d m c fp) :
    Calls Try.prog 21 #[.pointer (some ⟨d, 0, none⟩), .int .i64 x] w fun e w' => e = .returned (.tuple #[]) ∧ Turned w w' d (powerM m x) c fp := by
  have h0' := h0.stays
  obtain ⟨fb, lb, ov, h, rfl⟩ := h0
  have hok := ok_power h.ok x hx
  unfold powerM at hok ⊢
  cases hg : m.gone with
  | true =>
    refine (power_gone x w h hg).mono ?_
    rintro e w' ⟨rfl, rfl⟩
    exact ⟨rfl, h0'⟩
  | false =>
    rw [hg] at hok
    simp only [Bool.false_eq_true, if_false] at hok ⊢
    refine (power_here x w h hg).mono ?_
    rintro e w' ⟨rfl, rfl⟩
    exact ⟨rfl, _, ⟨fb, lb, ov, h.power { m with left := max x (-1), gone := false } (max x (-1)) rfl rfl rfl hok, rfl⟩, Moves.set _ _ _ _ (by simp [fpOf]), fun _ hx => .inl hx⟩
set_option maxHeartbeats 400000 in
theorem power_nil (x : Int) (w : World) : Calls Try.prog 21 #[.pointer none, .int .i64 x] w fun e w' => e = .returned (.tuple #[]) ∧ w' = w := by
  go_enter Try.func21, Try.ntmps21
  go_wp2
  refine bodyPost_ret (results_none rfl _ _ _) rfl ?_
  exact ⟨rfl, rfl⟩
end Go.Proofs.Ytmkmebogfcbphaa
