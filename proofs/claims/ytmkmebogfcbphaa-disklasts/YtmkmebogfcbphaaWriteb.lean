/- Write, where it is done; and Write in any case. -/
import Derived.Test.YtmkmebogfcbphaaWrite
namespace Go.Proofs.Ytmkmebogfcbphaa
open Go.ChangeShapes Go.WideShapes Go.ChangeAt Go.RowKit Go.Maps

variable {d : Nat} {m : Dk} {c fb lb : Nat} {ov : Value}

theorem lastW_put (op : List (Nat × ByteArray)) (n : Nat) (s : ByteArray) (L : Nat → Option ByteArray) (i : Nat) (h : L i = lastW op i) : put L n s i = lastW (op ++ [(n, s)]) i := by
  rw [lastW_snoc]
  unfold put
  by_cases e : i = n
  · subst e; simp
  · rw [if_neg e, if_neg (fun e' => e e'.symm)]
    exact h

/-- what a write has left in memory -/
theorem DiskAt.written {w w3 w5 : World} {n : Nat} {s : ByteArray} {L : Nat → Option ByteArray} {ov' : Value} (h : DiskAt w d m c fb lb ov) (hn : n < m.old.length) (hs : s.size = 1024)
    (hL3 : Sec w3 lb (m.op.length + 1) (put L n s)) (hL : ∀ i, i < m.old.length → L i = lastW m.op i) (hg3 : w.grownBy w3 (some lb))
    (hown : w5.ownsRow 0 76 2 ov' (m.op.length + 1) (opCells (m.op ++ [(n, s)]))) (hg5 : w3.grownBy w5 ov.ownBlock) (hloc : ov'.ownBlock = ov.ownBlock ∨ ∃ g, ov'.ownBlock = some g ∧ w3.heap.size ≤ g) :
    DiskAt (w5.setCell ⟨d, 4, none⟩ ov') d { m with op := m.op ++ [(n, s)] } (c + 1) fb lb ov' ∧ Moves (fpOf d fb lb ov) w (w5.setCell ⟨d, 4, none⟩ ov') ∧ ∀ x ∈ fpOf d fb lb ov', x ∈ fpOf d fb lb ov ∨ w.heap.size ≤ x := by
  have hm3 : Moves (fpOf d fb lb ov) w w3 := Moves.of_grown hg3 (fun k hk => by cases hk; simp [fpOf])
  have hm5 : Moves (fpOf d fb lb ov) w3 w5 := Moves.of_grown hg5 (fun k hk => by simp [fpOf, hk])
  have hm6 : Moves (fpOf d fb lb ov) w5 (w5.setCell ⟨d, 4, none⟩ ov') := Moves.set _ _ _ _ (by simp [fpOf])
  have hd3 : w3.heap[d]? = w.heap[d]? := hg3.block d h.dlt (fun e => h.dl (Option.some.inj e))
  have hd5 : w5.heap[d]? = w.heap[d]? := (hg5.block d (Nat.lt_of_lt_of_le h.dlt hg3.size) (fun e => h.nd e.symm)).trans hd3
  obtain ⟨F, nf, h1, r1, r2⟩ := h.fl
  have hf3 : w3.heap[fb]? = w.heap[fb]? := hg3.block fb h1.lt (fun e => h.ne (Option.some.inj e))
  have hf5 : w5.heap[fb]? = w.heap[fb]? := (hg5.block fb (Nat.lt_of_lt_of_le h1.lt hg3.size) (fun e => h.of e.symm)).trans hf3
  have hl5 : w5.heap[lb]? = w3.heap[lb]? := hg5.block lb hL3.lt (fun e => h.ol e.symm)
  have hnd : ov'.ownBlock ≠ some d := by
    rcases hloc with e | ⟨g, e, hg⟩
    · rw [e]; exact h.nd
    · rw [e]
      have := h.dlt
      have := hg3.size
      simp
      omega
  refine ⟨⟨?_, ⟨F, nf, h1.same ((Below.heap_setCell _ _ _ _ (by have := h.df; simp; omega)).trans hf5), ?_, r2⟩, ⟨put L n s, ?_, ?_⟩, ?_, h.ne, hnd, ?_⟩, (hm3.then hm5).then hm6, ?_⟩
  · have hb := hd5.trans h.blk
    simp [World.setCell, Array.getElem?_modify, hb]
    rfl
  · show nf + (m.op ++ [(n, s)]).length ≤ c + 1
    rw [List.length_append]
    simp
    omega
  · show Sec _ lb (m.op ++ [(n, s)]).length _
    rw [List.length_append]
    exact hL3.same ((Below.heap_setCell _ _ _ _ (by have := h.dl; simp; omega)).trans hl5)
  · intro i hi
    exact lastW_put _ _ _ _ _ (hL i hi)
  · show World.ownsRow _ 0 76 2 ov' (m.op ++ [(n, s)]).length _
    rw [List.length_append]
    exact ownsRow_same hown (fun g hg => Below.heap_setCell _ _ _ _ (by intro e; exact hnd (by rw [hg, e])))
  · refine ⟨h.ok.old, ?_, h.ok.left, h.ok.many⟩
    intro p hp
    rcases List.mem_append.1 hp with hp | hp
    · exact h.ok.op p hp
    · simp at hp
      subst hp
      exact ⟨hn, hs⟩
  · intro x hx
    simp [fpOf] at hx ⊢
    rcases hx with rfl | rfl | rfl | hx
    · simp
    · simp
    · simp
    · rcases hloc with e | ⟨g, e, hg⟩
      · rw [e] at hx
        simp [hx]
      · rw [e] at hx
        cases hx
        exact .inr (Nat.le_trans hg3.size hg)

theorem grown_frozen {w w' : World} {r : Option Nat} (hg : w.grownBy w' r) {d : Nat} (hlt : d < w.heap.size) (hne : some d ≠ r) (i : Nat) : w'.frozen? ⟨d, i, none⟩ = w.frozen? ⟨d, i, none⟩ :=
  World.frozen?_of_block (hg.block d hlt hne)

set_option maxHeartbeats 2000000 in
set_option maxRecDepth 20000 in
theorem write_ok (n : Int) (data : ByteArray) (w : World) (h : DiskAt w d m c fb lb ov) (hg : m.gone = false) (hl : m.left ≠ 0) (hn0 : 0 ≤ n) (hn1 : n < (m.old.length : Int)) (hs : data.size = 1024) (hc : c ≤ 1000000) :
    Calls Try.prog 16 #[.pointer (some ⟨d, 0, none⟩), .int .i64 n, .string data] w fun e w' => e = .returned (.int .i64 0) ∧
      ∃ ov', DiskAt w' d { m with left := spent m.left, op := m.op ++ [(n.toNat, data)] } (c + 1) fb lb ov' ∧ Moves (fpOf d fb lb ov) w w' ∧ ∀ x ∈ fpOf d fb lb ov', x ∈ fpOf d fb lb ov ∨ w.heap.size ≤ x := by
  have h1 := h.cell1
  rw [pw_here hg] at h1
  have H1 := hide h1
  have hl2 : m.left ≠ -2 := by have := h.ok.left; omega
  have H2 := hide hl
  have H3 := hide hl2
  have H0 := hide h.cell0
  have HN := hide hn0
  have HM := hide hn1
  have hs' : (data.size : Int) = 1024 := by omega
  have HZ : Hid (data.size ≤ 1000000) := by have := hs; show data.size ≤ 1000000; omega
  have HZ2 : Hid (data.size ≤ maxLen) := by have := hs; show data.size ≤ maxLen; unfold maxLen; omega
  have hmany := h.ok.many
  have H4 : Hid (n < 4096) := by show n < 4096; omega
  have hopl : m.op.length ≤ 1000000 := by obtain ⟨F, nf, _, r, _⟩ := h.fl; omega
  have HO := hide hopl
  have HS := hide hs
  have HA : Hid (DiskAt w d m c fb lb ov) := h
  have hnn : n.toNat < m.old.length := by omega
  have HNN := hide hnn
  have en : ((n.toNat : Nat) : Int) = n := Int.toNat_of_nonneg hn0
  have EN := hide en
  have HG := hide hg
  clear h1 hl hl2 hn0 hn1 hs hmany hopl h hnn en hg
  go_enter Try.func16, Try.ntmps16
  go_wp2_with (first
    | (go_at_call 36; refine (fails_not _ _ _ (unhide H1) (unhide H3) (unhide H2)).mono ?_; rintro e w' ⟨rfl, rfl⟩)
    | (go_at_call 33; refine (has_yes _ _ _ _ (unhide H0) (unhide HN) (unhide HM)).mono ?_; rintro e w' ⟨rfl, rfl⟩)
    | (go_at_call 37; refine (spend_any _ (unhide HA) (unhide HG)).mono ?_; rintro e w1 ⟨rfl, hA1, hm1⟩; have HA1 := hide hA1; have HM1 := hide hm1; clear hA1 hm1)
    | (go_at_call 34; refine (clone_any _ _ (unhide HZ)).mono ?_; rintro e w2 ⟨rfl, hb2⟩; have HA2 := hide ((unhide HA1).grow hb2); have h23 := (unhide HA2).cell3; have HB2 := hide hb2; clear hb2)
    | (at_mapUpdate; obtain ⟨L, hL, hLw⟩ := (unhide HA2).la; refine wp_store rfl _ _ _ rfl rfl rfl rfl hL (unhide HN) (unhide H4) (unhide HZ2) (by have := unhide HO; unfold maxLen; show m.op.length < _; omega) ?_; intro w3 hL3 hg3; have h34 := hg3.cell (unhide HA2).cell4 (by have := (unhide HA2).dl; simp; exact this); have HL3 := hide hL3; have HG3 := hide hg3; have HLW := hide hLw; clear hL hLw hL3 hg3)
    | (at_builtin; refine app_gen (v := ov) (news := [.int .i64 n, .string data]) Try.underlying66 info76 rfl (by decide) rfl _ _ rfl rfl rfl ((unhide HA2).op.kept (unhide HG3) (.inr (unhide HA2).ol)) (Nat.zero_le _) rfl (by intro u hu; simp at hu; rcases hu with rfl | rfl <;> rfl) (by have := unhide HO; show (m.op.length + 1) * 24 ≤ _; omega) (by have := unhide HO; show m.op.length + 1 ≤ _; omega) ?_; intro a5 cap5 w5 hown5 hg5 hloc; have HX := hide (And.intro hown5 (And.intro hg5 hloc)); have hc5 := hg5.cell h34 (by have := (unhide HA2).nd; exact fun e => this e.symm); have hfr : w5.frozen? ⟨d, 4, none⟩ = false := ((grown_frozen hg5 (Nat.lt_of_lt_of_le (unhide HA2).dlt (unhide HG3).size) (by have := (unhide HA2).nd; exact fun e => this e.symm) 4).trans (grown_frozen (unhide HG3) (unhide HA2).dlt (by have := (unhide HA2).dl; simp; exact this) 4)).trans ((unhide HA2).free 4); clear hown5 hg5 hloc)
    | go_in)
  go_ret
  obtain ⟨hown5, hg5, hloc⟩ := unhide HX
  have hown6 : w5.ownsRow 0 76 2 (.slice a5 (m.op.length + 1) cap5) (m.op.length + 1) (opCells (m.op ++ [(n.toNat, data)])) := by
    rw [opCells_snoc]
    show w5.ownsRow 0 76 2 (.slice a5 (m.op.length + 1) cap5) (m.op.length + 1) (opCells m.op ++ [.int .i64 ((n.toNat : Nat) : Int), .string data])
    rw [unhide EN]
    exact hown5
  obtain ⟨r1, r2, r3⟩ := (unhide HA2).written (unhide HNN) (unhide HS) (unhide HL3) (unhide HLW) (unhide HG3) hown6 hg5 hloc
  have hm1 := unhide HM1
  have hb2 := unhide HB2
  refine ⟨rfl, _, r1, ((hm1.mono (fun x hx => .inl (by simp at hx; simp [fpOf, hx]))).then (Moves.of_below _ hb2)).then r2, fun x hx => ?_⟩
  rcases r3 x hx with h | h
  · exact .inl h
  · have := hm1.size
    have := hb2.size
    exact .inr (by omega)

/-- a disk in memory, with the blocks that are its own -/
def IsDisk (w : World) (d : Nat) (m : Dk) (c : Nat) (fp : List Nat) : Prop := ∃ fb lb ov, DiskAt w d m c fb lb ov ∧ fp = fpOf d fb lb ov
/-- what an operation does to a disk: it is this one now, and nothing else has turned -/
def Turned (w w' : World) (d : Nat) (m' : Dk) (c : Nat) (fp : List Nat) : Prop := ∃ fp', IsDisk w' d m' c fp' ∧ Moves fp w w' ∧ ∀ x ∈ fp', x ∈ fp ∨ w.heap.size ≤ x

theorem IsDisk.mono {w : World} {fp : List Nat} (h : IsDisk w d m c fp) {c' : Nat} (hc : c ≤ c') : IsDisk w d m c' fp := by
  obtain ⟨fb, lb, ov, h, e⟩ := h
  obtain ⟨F, nf, h1, r1, r2⟩ := h.fl
  exact ⟨fb, lb, ov, ⟨h.blk, ⟨F, nf, h1, by omega, r2⟩, h.la, h.op, h.ne, h.nd, h.ok⟩, e⟩
theorem IsDisk.ok {w : World} {fp : List Nat} (h : IsDisk w d m c fp) : Ok m := by
  obtain ⟨fb, lb, ov, h, e⟩ := h
  exact h.ok
theorem IsDisk.lt {w : World} {fp : List Nat} (h : IsDisk w d m c fp) : ∀ x ∈ fp, x < w.heap.size := by
  obtain ⟨fb, lb, ov, h, rfl⟩ := h
  exact h.lt
theorem IsDisk.keep {w w' : World} {fp fq : List Nat} (h : IsDisk w d m c fp) (hm : Moves fq w w') (hd : ∀ x ∈ fp, x ∉ fq) : IsDisk w' d m c fp := by
  obtain ⟨fb, lb, ov, h, rfl⟩ := h
  exact ⟨fb, lb, ov, h.keep hm hd, rfl⟩
theorem IsDisk.grow {w w' : World} {fp : List Nat} (h : IsDisk w d m c fp) (hm : Below w.heap.size w w') : IsDisk w' d m c fp :=
  h.keep (Moves.of_below [] hm) (fun _ _ => List.not_mem_nil)
theorem IsDisk.stays {w : World} {fp : List Nat} (h : IsDisk w d m c fp) : Turned w w d m c fp := ⟨fp, h, Moves.refl _ _, fun _ hx => .inl hx⟩

theorem write_any (n : Int) (data : ByteArray) (fp : List Nat) (w : World) (h0 : IsDisk w d m c fp) (hc : c ≤ 1000000) :
    Calls Try.prog 16 #[.pointer (some ⟨d, 0, none⟩), .int .i64 n, .string data] w fun e w' => e = .returned (.int .i64 (writeE m n data)) ∧ Turned w w' d (writeM m n data) (c + 1) fp := by
  have h0' := (h0.mono (Nat.le_succ c)).stays
  obtain ⟨fb, lb, ov, h, rfl⟩ := h0
  unfold writeE writeM
  cases hg : m.gone with
  | true =>
    refine (write_gone n data w h hg).mono ?_
    rintro e w' ⟨rfl, rfl⟩
    exact ⟨rfl, h0'⟩
  | false =>
    simp only [Bool.false_eq_true, if_false]
    by_cases hl : m.left = 0
    · rw [if_pos hl, if_pos hl]
      refine (write_now n data w h hg hl).mono ?_
      rintro e w' ⟨rfl, rfl⟩
      refine ⟨rfl, _, (IsDisk.mono ⟨fb, lb, ov, h.power { m with gone := true } (-2) rfl rfl rfl ⟨h.ok.old, h.ok.op, h.ok.left, h.ok.many⟩, rfl⟩ (Nat.le_succ c)), Moves.set _ _ _ _ (by simp [fpOf]), fun _ hx => .inl hx⟩
    · rw [if_neg hl, if_neg hl]
      by_cases hn : n < 0 ∨ (m.old.length : Int) ≤ n
      · rw [if_pos hn, if_pos hn]
        refine (write_out n data w h hg hl hn).mono ?_
        rintro e w' ⟨rfl, rfl⟩
        exact ⟨rfl, h0'⟩
      · rw [if_neg hn, if_neg hn]
        by_cases hs : data.size = 1024
        · rw [if_neg (by omega), if_neg (by omega)]
          refine (write_ok n data w h hg hl (by omega) (by omega) hs hc).mono ?_
          rintro e w' ⟨rfl, ov', r1, r2, r3⟩
          rw [hg] at r1
          exact ⟨rfl, _, ⟨fb, lb, ov', r1, rfl⟩, r2, r3⟩
        · rw [if_pos hs, if_pos hs]
          refine (write_size n data w h hg hl (by omega) (by omega) hs).mono ?_
          rintro e w' ⟨rfl, rfl⟩
          exact ⟨rfl, h0'⟩
set_option maxHeartbeats 400000 in
theorem write_nil (n : Int) (data : ByteArray) (w : World) : Calls Try.prog 16 #[.pointer none, .int .i64 n, .string data] w fun e w' => e = .returned (.int .i64 2) ∧ w' = w := by
  go_enter Try.func16, Try.ntmps16
  go_wp2
  go_ret
  exact ⟨rfl, rfl⟩
end Go.Proofs.Ytmkmebogfcbphaa
