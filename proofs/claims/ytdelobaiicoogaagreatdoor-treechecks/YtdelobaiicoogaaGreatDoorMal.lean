/- Texts that the proof needs, one behind the other. -/
import Derived.Test.YtdelobaiicoogaaGreatDoorMak
import Derived.Deep.RegionHeld3
import Derived.Lib.SliceRun
import Derived.Test.YtdelobaiicoogaaGreatDoorMaa
/- Write, where it is done; and Write in any case. -/
namespace Go.Proofs.YtdelobaiicoogaaGreatDoor.L3
open Go.ChangeShapes Go.WideShapes Go.ChangeAt Go.RowKit Go.Maps

variable {d : Nat} {m : Dk} {c fb lb : Nat} {ov : Value}

theorem lastW_put (op : List (Nat × ByteArray)) (n : Nat) (s : ByteArray) (L : Nat → Option ByteArray) (i : Nat) (h : L i = lastW op i) : put L n s i = lastW (op ++ [(n, s)]) i := by
  rw [lastW_snoc]
  unfold put
  by_cases e : i = n
  · subst e; simp
  · rw [if_neg e, if_neg (fun e' => e e'.symm)]
    exact h

/-- what a write has left in memory -/
theorem DiskAt.written {w w3 w5 : World} {n : Nat} {s : ByteArray} {L : Nat → Option ByteArray} {ov' : Value} (h : DiskAt w d m c fb lb ov) (hn : n < m.old.length) (hs : s.size = 1024)
    (hL3 : Sec w3 lb (m.op.length + 1) (put L n s)) (hL : ∀ i, i < m.old.length → L i = lastW m.op i) (hg3 : w.grownBy w3 (some lb))
    (hown : w5.ownsRow 0 225 2 ov' (m.op.length + 1) (opCells (m.op ++ [(n, s)]))) (hg5 : w3.grownBy w5 ov.ownBlock) (hloc : ov'.ownBlock = ov.ownBlock ∨ ∃ g, ov'.ownBlock = some g ∧ w3.heap.size ≤ g) :
    DiskAt (w5.setCell ⟨d, 4, none⟩ ov') d { m with op := m.op ++ [(n, s)] } (c + 1) fb lb ov' ∧ Moves (fpOf d fb lb ov) w (w5.setCell ⟨d, 4, none⟩ ov') ∧ ∀ x ∈ fpOf d fb lb ov', x ∈ fpOf d fb lb ov ∨ w.heap.size ≤ x := by
  have hm3 : Moves (fpOf d fb lb ov) w w3 := Moves.of_grown hg3 (fun k hk => by cases hk; simp [fpOf])
  have hm5 : Moves (fpOf d fb lb ov) w3 w5 := Moves.of_grown hg5 (fun k hk => by simp [fpOf, hk])
  have hm6 : Moves (fpOf d fb lb ov) w5 (w5.setCell ⟨d, 4, none⟩ ov') := Moves.set _ _ _ _ (by simp [fpOf])
  have hd3 : w3.heap[d]? = w.heap[d]? := hg3.block d h.dlt (fun e => h.dl (Option.some.inj e))
  have hd5 : w5.heap[d]? = w.heap[d]? := (hg5.block d (Nat.lt_of_lt_of_le h.dlt hg3.size) (fun e => h.nd e.symm)).trans hd3
  obtain ⟨F, nf, h1, r1, r2⟩ := h.fl
  have hf3 : w3.heap[fb]? = w.heap[fb]? := hg3.block fb h1.lt (fun e => h.ne (Option.some.inj e))
  have hf5 : w5.heap[fb]? = w.heap[fb]? := (hg5.block fb (Nat.lt_of_lt_of_le h1.lt hg3.size) (fun e => h.of e.symm)).trans hf3
  have hl5 : w5.heap[lb]? = w3.heap[lb]? := hg5.block lb hL3.lt (fun e => h.ol e.symm)
  have hnd : ov'.ownBlock ≠ some d := by
    rcases hloc with e | ⟨g, e, hg⟩
    · rw [e]; exact h.nd
    · rw [e]
      have := h.dlt
      have := hg3.size
      simp
      omega
  refine ⟨⟨?_, ⟨F, nf, h1.same ((Below.heap_setCell _ _ _ _ (by have := h.df; simp; omega)).trans hf5), ?_, r2⟩, ⟨put L n s, ?_, ?_⟩, ?_, h.ne, hnd, ?_⟩, (hm3.then hm5).then hm6, ?_⟩
  · have hb := hd5.trans h.blk
    simp [World.setCell, Array.getElem?_modify, hb]
    rfl
  · show nf + (m.op ++ [(n, s)]).length ≤ c + 1
    rw [List.length_append]
    simp
    omega
  · show Sec _ lb (m.op ++ [(n, s)]).length _
    rw [List.length_append]
    exact hL3.same ((Below.heap_setCell _ _ _ _ (by have := h.dl; simp; omega)).trans hl5)
  · intro i hi
    exact lastW_put _ _ _ _ _ (hL i hi)
  · show World.ownsRow _ 0 225 2 ov' (m.op ++ [(n, s)]).length _
    rw [List.length_append]
    exact ownsRow_same hown (fun g hg => Below.heap_setCell _ _ _ _ (by intro e; exact hnd (by rw [hg, e])))
  · refine ⟨h.ok.old, ?_, h.ok.left, h.ok.many⟩
    intro p hp
    rcases List.mem_append.1 hp with hp | hp
    · exact h.ok.op p hp
    · simp at hp
      subst hp
      exact ⟨hn, hs⟩
  · intro x hx
    simp [fpOf] at hx ⊢
    rcases hx with rfl | rfl | rfl | hx
    · simp
    · simp
    · simp
    · rcases hloc with e | ⟨g, e, hg⟩
      · rw [e] at hx
        simp [hx]
      · rw [e] at hx
        cases hx
        exact .inr (Nat.le_trans hg3.size hg)

theorem grown_frozen {w w' : World} {r : Option Nat} (hg : w.grownBy w' r) {d : Nat} (hlt : d < w.heap.size) (hne : some d ≠ r) (i : Nat) : w'.frozen? ⟨d, i, none⟩ = w.frozen? ⟨d, i, none⟩ :=
  World.frozen?_of_block (hg.block d hlt hne)

set_option maxHeartbeats 2000000 in
set_option maxRecDepth 20000 in
theorem write_ok (n : Int) (data : ByteArray) (w : World) (h : DiskAt w d m c fb lb ov) (hg : m.gone = false) (hl : m.left ≠ 0) (hn0 : 0 ≤ n) (hn1 : n < (m.old.length : Int)) (hs : data.size = 1024) (hc : c ≤ 1000000) :
    Calls Tryz.prog 61 #[.pointer (some ⟨d, 0, none⟩), .int .i64 n, .string data] w fun e w' => e = .returned (.int .i64 0) ∧
      ∃ ov', DiskAt w' d { m with left := spent m.left, op := m.op ++ [(n.toNat, data)] } (c + 1) fb lb ov' ∧ Moves (fpOf d fb lb ov) w w' ∧ ∀ x ∈ fpOf d fb lb ov', x ∈ fpOf d fb lb ov ∨ w.heap.size ≤ x := by
  have h1 := h.cell1
  rw [pw_here hg] at h1
  have H1 := hide h1
  have hl2 : m.left ≠ -2 := by have := h.ok.left; omega
  have H2 := hide hl
  have H3 := hide hl2
  have H0 := hide h.cell0
  have HN := hide hn0
  have HM := hide hn1
  have hs' : (data.size : Int) = 1024 := by omega
  have HZ : Hid (data.size ≤ 1000000) := by have := hs; show data.size ≤ 1000000; omega
  have HZ2 : Hid (data.size ≤ maxLen) := by have := hs; show data.size ≤ maxLen; unfold maxLen; omega
  have hmany := h.ok.many
  have H4 : Hid (n < 4096) := by show n < 4096; omega
  have hopl : m.op.length ≤ 1000000 := by obtain ⟨F, nf, _, r, _⟩ := h.fl; omega
  have HO := hide hopl
  have HS := hide hs
  have HA : Hid (DiskAt w d m c fb lb ov) := h
  have hnn : n.toNat < m.old.length := by omega
  have HNN := hide hnn
  have en : ((n.toNat : Nat) : Int) = n := Int.toNat_of_nonneg hn0
  have EN := hide en
  have HG := hide hg
  clear h1 hl hl2 hn0 hn1 hs hmany hopl h hnn en hg
  go_enter Tryz.func61, Tryz.ntmps61
  go_wp2_with (first
    | (go_at_call 103; refine (fails_not _ _ _ (unhide H1) (unhide H3) (unhide H2)).mono ?_; rintro e w' ⟨rfl, rfl⟩)
    | (go_at_call 104; refine (has_yes _ _ _ _ (unhide H0) (unhide HN) (unhide HM)).mono ?_; rintro e w' ⟨rfl, rfl⟩)
    | (go_at_call 105; refine (spend_any _ (unhide HA) (unhide HG)).mono ?_; rintro e w1 ⟨rfl, hA1, hm1⟩; have HA1 := hide hA1; have HM1 := hide hm1; clear hA1 hm1)
    | (go_at_call 106; refine (clone_any _ _ (unhide HZ)).mono ?_; rintro e w2 ⟨rfl, hb2⟩; have HA2 := hide ((unhide HA1).grow hb2); have h23 := (unhide HA2).cell3; have HB2 := hide hb2; clear hb2)
    | (at_mapUpdate; obtain ⟨L, hL, hLw⟩ := (unhide HA2).la; refine wp_store rfl _ _ _ rfl rfl rfl rfl hL (unhide HN) (unhide H4) (unhide HZ2) (by have := unhide HO; unfold maxLen; show m.op.length < _; omega) ?_; intro w3 hL3 hg3; have h34 := hg3.cell (unhide HA2).cell4 (by have := (unhide HA2).dl; simp; exact this); have HL3 := hide hL3; have HG3 := hide hg3; have HLW := hide hLw; clear hL hLw hL3 hg3)
    | (at_builtin; refine app_gen (v := ov) (news := [.int .i64 n, .string data]) Tryz.underlying208 info225 rfl (by decide) rfl _ _ rfl rfl rfl ((unhide HA2).op.kept (unhide HG3) (.inr (unhide HA2).ol)) (Nat.zero_le _) rfl (by intro u hu; simp at hu; rcases hu with rfl | rfl <;> rfl) (by have := unhide HO; show (m.op.length + 1) * 24 ≤ _; omega) (by have := unhide HO; show m.op.length + 1 ≤ _; omega) ?_; intro a5 cap5 w5 hown5 hg5 hloc; have HX := hide (And.intro hown5 (And.intro hg5 hloc)); have hc5 := hg5.cell h34 (by have := (unhide HA2).nd; exact fun e => this e.symm); have hfr : w5.frozen? ⟨d, 4, none⟩ = false := ((grown_frozen hg5 (Nat.lt_of_lt_of_le (unhide HA2).dlt (unhide HG3).size) (by have := (unhide HA2).nd; exact fun e => this e.symm) 4).trans (grown_frozen (unhide HG3) (unhide HA2).dlt (by have := (unhide HA2).dl; simp; exact this) 4)).trans ((unhide HA2).free 4); clear hown5 hg5 hloc)
    | go_in)
  go_ret
  obtain ⟨hown5, hg5, hloc⟩ := unhide HX
  have hown6 : w5.ownsRow 0 225 2 (.slice a5 (m.op.length + 1) cap5) (m.op.length + 1) (opCells (m.op ++ [(n.toNat, data)])) := by
    rw [opCells_snoc]
    show w5.ownsRow 0 225 2 (.slice a5 (m.op.length + 1) cap5) (m.op.length + 1) (opCells m.op ++ [.int .i64 ((n.toNat : Nat) : Int), .string data])
    rw [unhide EN]
    exact hown5
  obtain ⟨r1, r2, r3⟩ := (unhide HA2).written (unhide HNN) (unhide HS) (unhide HL3) (unhide HLW) (unhide HG3) hown6 hg5 hloc
  have hm1 := unhide HM1
  have hb2 := unhide HB2
  refine ⟨rfl, _, r1, ((hm1.mono (fun x hx => .inl (by simp at hx; simp [fpOf, hx]))).then (Moves.of_below _ hb2)).then r2, fun x hx => ?_⟩
  rcases r3 x hx with h | h
  · exact .inl h
  · have := hm1.size
    have := hb2.size
    exact .inr (by omega)

/-- a disk in memory, with the blocks that are its own -/
def IsDisk (w : World) (d : Nat) (m : Dk) (c : Nat) (fp : List Nat) : Prop := ∃ fb lb ov, DiskAt w d m c fb lb ov ∧ fp = fpOf d fb lb ov
/-- what an operation does to a disk: it is this one now, and nothing else has turned -/
def Turned (w w' : World) (d : Nat) (m' : Dk) (c : Nat) (fp : List Nat) : Prop := ∃ fp', IsDisk w' d m' c fp' ∧ Moves fp w w' ∧ ∀ x ∈ fp', x ∈ fp ∨ w.heap.size ≤ x

theorem IsDisk.mono {w : World} {fp : List Nat} (h : IsDisk w d m c fp) {c' : Nat} (hc : c ≤ c') : IsDisk w d m c' fp := by
  obtain ⟨fb, lb, ov, h, e⟩ := h
  obtain ⟨F, nf, h1, r1, r2⟩ := h.fl
  exact ⟨fb, lb, ov, ⟨h.blk, ⟨F, nf, h1, by omega, r2⟩, h.la, h.op, h.ne, h.nd, h.ok⟩, e⟩
theorem IsDisk.ok {w : World} {fp : List Nat} (h : IsDisk w d m c fp) : Ok m := by
  obtain ⟨fb, lb, ov, h, e⟩ := h
  exact h.ok
theorem IsDisk.lt {w : World} {fp : List Nat} (h : IsDisk w d m c fp) : ∀ x ∈ fp, x < w.heap.size := by
  obtain ⟨fb, lb, ov, h, rfl⟩ := h
  exact h.lt
theorem IsDisk.keep {w w' : World} {fp fq : List Nat} (h : IsDisk w d m c fp) (hm : Moves fq w w') (hd : ∀ x ∈ fp, x ∉ fq) : IsDisk w' d m c fp := by
  obtain ⟨fb, lb, ov, h, rfl⟩ := h
  exact ⟨fb, lb, ov, h.keep hm hd, rfl⟩
theorem IsDisk.grow {w w' : World} {fp : List Nat} (h : IsDisk w d m c fp) (hm : Below w.heap.size w w') : IsDisk w' d m c fp :=
  h.keep (Moves.of_below [] hm) (fun _ _ => List.not_mem_nil)
theorem IsDisk.stays {w : World} {fp : List Nat} (h : IsDisk w d m c fp) : Turned w w d m c fp := ⟨fp, h, Moves.refl _ _, fun _ hx => .inl hx⟩

theorem write_any (n : Int) (data : ByteArray) (fp : List Nat) (w : World) (h0 : IsDisk w d m c fp) (hc : c ≤ 1000000) :
    Calls Tryz.prog 61 #[.pointer (some ⟨d, 0, none⟩), .int .i64 n, .string data] w fun e w' => e = .returned (.int .i64 (writeE m n data)) ∧ Turned w w' d (writeM m n data) (c + 1) fp := by
  have h0' := (h0.mono (Nat.le_succ c)).stays
  obtain ⟨fb, lb, ov, h, rfl⟩ := h0
  unfold writeE writeM
  cases hg : m.gone with
  | true =>
    refine (write_gone n data w h hg).mono ?_
    rintro e w' ⟨rfl, rfl⟩
    exact ⟨rfl, h0'⟩
  | false =>
    simp only [Bool.false_eq_true, if_false]
    by_cases hl : m.left = 0
    · rw [if_pos hl, if_pos hl]
      refine (write_now n data w h hg hl).mono ?_
      rintro e w' ⟨rfl, rfl⟩
      refine ⟨rfl, _, (IsDisk.mono ⟨fb, lb, ov, h.power { m with gone := true } (-2) rfl rfl rfl ⟨h.ok.old, h.ok.op, h.ok.left, h.ok.many⟩, rfl⟩ (Nat.le_succ c)), Moves.set _ _ _ _ (by simp [fpOf]), fun _ hx => .inl hx⟩
    · rw [if_neg hl, if_neg hl]
      by_cases hn : n < 0 ∨ (m.old.length : Int) ≤ n
      · rw [if_pos hn, if_pos hn]
        refine (write_out n data w h hg hl hn).mono ?_
        rintro e w' ⟨rfl, rfl⟩
        exact ⟨rfl, h0'⟩
      · rw [if_neg hn, if_neg hn]
        by_cases hs : data.size = 1024
        · rw [if_neg (by omega), if_neg (by omega)]
          refine (write_ok n data w h hg hl (by omega) (by omega) hs hc).mono ?_
          rintro e w' ⟨rfl, ov', r1, r2, r3⟩
          rw [hg] at r1
          exact ⟨rfl, _, ⟨fb, lb, ov', r1, rfl⟩, r2, r3⟩
        · rw [if_pos hs, if_pos hs]
          refine (write_size n data w h hg hl (by omega) (by omega) hs).mono ?_
          rintro e w' ⟨rfl, rfl⟩
          exact ⟨rfl, h0'⟩
end Go.Proofs.YtdelobaiicoogaaGreatDoor.L3

/- What changes a disk: Flush, Power. -/
namespace Go.Proofs.YtdelobaiicoogaaGreatDoor.L3
open Go.ChangeShapes Go.WideShapes Go.ChangeAt Go.RowKit Go.Maps

variable {d : Nat} {m : Dk} {c fb lb : Nat} {ov : Value}

/-! Power -/
end Go.Proofs.YtdelobaiicoogaaGreatDoor.L3

/- New disks: New, and the parts of Copy and Crash. -/
namespace Go.Proofs.YtdelobaiicoogaaGreatDoor.L3
open Go.ChangeShapes Go.WideShapes Go.ChangeAt Go.RowKit Go.Maps

variable {d : Nat} {m : Dk} {c fb lb : Nat} {ov : Value}

def madeW (w : World) (n : Int) (fb : Nat) : World := (w.alloc (.map #[] 0)).alloc (.cells #[.int .i64 n, .int .i64 (-1), .map (some fb), .map (some w.heap.size), .slice none 0 0] 210)
set_option maxHeartbeats 1000000 in
theorem started_run (n : Int) (fb : Nat) (w : World) :
    Calls Tryz.prog 53 #[.int .i64 n, .map (some fb)] w fun e w' => e = .returned (.pointer (some ⟨w.heap.size + 1, 0, none⟩)) ∧ w' = madeW w n fb := by
  have hmm := @run_makeMap Tryz.prog
  go_enter Tryz.func53, Tryz.ntmps53
  go_wp2
  go_ret
  exact ⟨rfl, rfl⟩
theorem madeW_below (w : World) (n : Int) (fb : Nat) : Below w.heap.size w (madeW w n fb) := ((Below.refl _ _).alloc (Nat.le_refl _) _).alloc (by simp) _
theorem madeW_disk (w : World) (old : List ByteArray) (fb nf : Nat) (F : Nat → Option ByteArray) (h : Sec w fb nf F) (hF : ∀ i, i < old.length → (F i).getD zeros = old.getD i ByteArray.empty)
    (hok : Ok ⟨old, [], -1, false⟩) (hc : nf ≤ c) : DiskAt (madeW w (old.length : Int) fb) (w.heap.size + 1) ⟨old, [], -1, false⟩ c fb w.heap.size (.slice none 0 0) := by
  have hlt := h.lt
  refine ⟨?_, ⟨F, nf, h.same ((madeW_below _ _ _).block _ hlt), hc, hF⟩, ⟨fun _ => none, ?_, fun i _ => rfl⟩, World.ownsRow_nil _ _ _ _, by omega, by simp [Value.ownBlock], hok⟩
  · unfold madeW
    show ((w.heap.push _).push _)[w.heap.size + 1]? = _
    rw [Array.getElem?_push, if_pos (by simp)]
    rfl
  · refine (Sec.made w).same ?_
    unfold madeW
    exact Below.heap_alloc _ _ _ (by simp)
theorem started_any (old : List ByteArray) (fb nf : Nat) (F : Nat → Option ByteArray) (w : World) (h : Sec w fb nf F) (hF : ∀ i, i < old.length → (F i).getD zeros = old.getD i ByteArray.empty)
    (hok : Ok ⟨old, [], -1, false⟩) (hc : nf ≤ c) :
    Calls Tryz.prog 53 #[.int .i64 (old.length : Int), .map (some fb)] w fun e w' => e = .returned (.pointer (some ⟨w.heap.size + 1, 0, none⟩)) ∧ DiskAt w' (w.heap.size + 1) ⟨old, [], -1, false⟩ c fb w.heap.size (.slice none 0 0) ∧ Below w.heap.size w w' := by
  refine (started_run _ fb w).mono ?_
  rintro e w' ⟨rfl, rfl⟩
  exact ⟨rfl, madeW_disk w old fb nf F h hF hok hc, madeW_below _ _ _⟩

/-- a new disk -/
def newM (n : Nat) : Dk := ⟨List.replicate n zeros, [], -1, false⟩
theorem getD_rep (n i : Nat) (h : i < n) (s z : ByteArray) : (List.replicate n s).getD i z = s := by
  rw [List.getD_eq_getElem?_getD, List.getElem?_replicate, if_pos h]
  rfl
theorem newM_ok (n : Nat) (h : n ≤ 4096) : Ok (newM n) := by
  refine ⟨?_, (fun p hp => absurd hp List.not_mem_nil), (by show (-1 : Int) ≤ -1 ∧ (-1 : Int) ≤ 9223372036854775807; omega), ?_⟩
  · intro i hi
    have hi' : i < n := by simpa [newM] using hi
    show ((List.replicate n zeros).getD i ByteArray.empty).size = 1024
    rw [getD_rep _ _ hi']
    exact zeros_size
  · show (List.replicate n zeros).length ≤ 4096
    rw [List.length_replicate]
    exact h

set_option maxHeartbeats 1000000 in
set_option maxRecDepth 20000 in
theorem new_bad (n : Int) (w : World) (h : n < 1 ∨ 4096 < n) : Calls Tryz.prog 19 #[.int .i64 n] w fun e w' => e = .returned (.tuple #[.pointer none, .int .i64 1]) ∧ w' = w := by
  by_cases h1 : n < 1
  · go_enter Tryz.func19, Tryz.ntmps19
    go_wp2
    go_ret2
    exact ⟨rfl, rfl⟩
  · have h2 : 4096 < n := by omega
    go_enter Tryz.func19, Tryz.ntmps19
    go_wp2
    go_ret2
    exact ⟨rfl, rfl⟩
set_option maxHeartbeats 1000000 in
set_option maxRecDepth 20000 in
theorem new_any (n : Int) (w : World) (h1 : 1 ≤ n) (h2 : n ≤ 4096) : Calls Tryz.prog 19 #[.int .i64 n] w fun e w' => ∃ d fp, e = .returned (.tuple #[.pointer (some ⟨d, 0, none⟩), .int .i64 0]) ∧ IsDisk w' d (newM n.toNat) 0 fp ∧ Below w.heap.size w w' ∧ (∀ x ∈ fp, w.heap.size ≤ x) := by
  have h3 : ¬ n < 1 := by omega
  have h4 : ¬ 4096 < n := by omega
  have hmm := @run_makeMap Tryz.prog
  have hst := started_any (c := 0) (List.replicate n.toNat zeros) w.heap.size 0 (fun _ => none) (w.alloc (.map #[] 0)) (Sec.made w)
    (fun i hi => by rw [getD_rep _ _ (by simpa using hi)]; rfl) (newM_ok n.toNat (by omega)) (Nat.le_refl _)
  have en : ((List.replicate n.toNat zeros).length : Int) = n := by rw [List.length_replicate]; omega
  rw [en] at hst
  have HST := hide hst
  clear hst en h1 h2
  go_enter Tryz.func19, Tryz.ntmps19
  go_wp2_with (go_at_call 53; refine (unhide HST).mono ?_; rintro e w' ⟨rfl, hA, hb⟩)
  have es : (w.alloc (.map #[] 0)).heap.size = w.heap.size + 1 := by simp
  rw [es] at hA hb
  go_ret2
  refine ⟨_, _, rfl, ⟨_, _, _, hA, rfl⟩, ((Below.refl _ _).alloc (Nat.le_refl _) _).trans (hb.mono (by simp)), ?_⟩
  intro x hx
  simp [fpOf, Value.ownBlock] at hx
  omega

theorem ownsRow_base {w : World} {B B' : Nat} {e : TypeId} {size : Nat} {v : Value} {n : Nat} {xs : List Value} (h : w.ownsRow B e size v n xs) (hB : B' ≤ B) : w.ownsRow B' e size v n xs := by
  refine ⟨h.1, ?_⟩
  rcases h.2 with h2 | ⟨g, cap, cur, e, hg, r⟩
  · exact .inl h2
  · exact .inr ⟨g, cap, cur, e, by omega, r⟩

end Go.Proofs.YtdelobaiicoogaaGreatDoor.L3

/- Copy: another disk like this one. -/
namespace Go.Proofs.YtdelobaiicoogaaGreatDoor.L3
open Go.ChangeShapes Go.WideShapes Go.ChangeAt Go.RowKit Go.Maps

variable {d : Nat} {m : Dk} {c fb lb : Nat} {ov : Value}

end Go.Proofs.YtdelobaiicoogaaGreatDoor.L3

/- Sectors in the program's map: the map is that of a list of states. -/
namespace Go.Proofs.YtdelobaiicoogaaGreatDoor.L5
open Go.ChangeShapes Go.WideShapes Go.ChangeAt Go.RowKit Go.Maps

/-- a sector as a value -/
def secV : St → Value
  | some (h, g) => .agg #[.int .i64 (h : Int), .int .i64 g]
  | none => .agg #[.int .i64 0, .int .i64 0]
def datum (h : Nat) (g : Int) : DataW Unit := .agg [.lit (.int .i64 (h : Int)), .lit (.int .i64 g)]

/-- how a sector in a map reads -/
def secR : Value → Option (DataW Unit × List MemPlace)
  | .agg cs => match cs.toList with
    | [.int .i64 h, .int .i64 g] => if 0 ≤ h then some (datum h.toNat g, []) else none
    | _ => none
  | _ => none
theorem secR_mk (h : Nat) (g : Int) : secR (.agg #[.int .i64 (h : Int), .int .i64 g]) = some (datum h g, []) := by
  simp [secR]
theorem secR_inv {v : Value} {z : DataW Unit × List MemPlace} (hv : secR v = some z) : ∃ (h : Nat) (g : Int), v = .agg #[.int .i64 (h : Int), .int .i64 g] ∧ z = (datum h g, []) := by
  unfold secR at hv
  split at hv
  · rename_i cs
    split at hv
    · rename_i h g hs
      split at hv
      · rename_i h0
        cases hv
        refine ⟨h.toNat, g, ?_, rfl⟩
        rw [Int.toNat_of_nonneg h0, ← Array.toArray_toList (xs := cs), hs]
      · cases hv
    · cases hv
  · cases hv
theorem datum_inj {h h' : Nat} {g g' : Int} (e : datum h g = datum h' g') : h = h' ∧ g = g' := by
  unfold datum at e
  simp at e
  omega

theorem law3 : Keyed Tryz.prog 3 := int_keyed Tryz.underlying3
theorem zero56 (w : World) : (zeroValue 152).run Tryz.prog w = .ok (.agg #[.int .i64 0, .int .i64 0]) w := by kernel_rfl
theorem key3 {n : Int} (h : I64 n) : keyOf Tryz.prog 3 (.int .i64 n) = some (.int .i64 n) := keyOf_int_mk Tryz.underlying3 (WalkArith.wf_i64 (by unfold I64 at h; omega))
/-- the entries of a list of states -/
def ents : Nat → List St → List (Lit × DataW Unit)
  | _, [] => []
  | fr, none :: r => ents (fr + 1) r
  | fr, some (h, g) :: r => (.int .i64 (fr : Int), datum h g) :: ents (fr + 1) r
def mp (fr : Nat) (l : List St) : DataW Unit := .map (ents fr l)

theorem ents_mem : ∀ (l : List St) (fr : Nat) (p : Lit × DataW Unit), p ∈ ents fr l ↔ ∃ (i h : Nat) (g : Int), l[i]? = some (some (h, g)) ∧ p = (.int .i64 ((fr : Int) + (i : Int)), datum h g)
  | [], fr, p => by simp [ents]
  | s :: r, fr, p => by
    have ih := ents_mem r (fr + 1) p
    have e : ∀ i : Nat, ((fr + 1 : Nat) : Int) + (i : Int) = (fr : Int) + ((i + 1 : Nat) : Int) := fun i => by omega
    have step : (∃ (i h : Nat) (g : Int), (s :: r)[i]? = some (some (h, g)) ∧ p = (.int .i64 ((fr : Int) + (i : Int)), datum h g)) ↔ (∃ h g, s = some (h, g) ∧ p = (.int .i64 (fr : Int), datum h g)) ∨ p ∈ ents (fr + 1) r := by
      rw [ih]
      constructor
      · rintro ⟨i, h, g, hi, hp⟩
        cases i with
        | zero => simp at hi; exact .inl ⟨h, g, hi, by simpa using hp⟩
        | succ i => exact .inr ⟨i, h, g, by simpa using hi, by rw [e i]; exact hp⟩
      · rintro (⟨h, g, hs, hp⟩ | ⟨i, h, g, hi, hp⟩)
        · exact ⟨0, h, g, by simp [hs], by simpa using hp⟩
        · exact ⟨i + 1, h, g, by simpa using hi, by rw [e i] at hp; exact hp⟩
    rw [step]
    cases s with
    | none => simp [ents]
    | some x =>
      obtain ⟨h, g⟩ := x
      simp only [ents, List.mem_cons]
      constructor
      · rintro (hp | hp)
        · exact .inl ⟨h, g, rfl, hp⟩
        · exact .inr hp
      · rintro (⟨h', g', he, hp⟩ | hp)
        · cases he
          exact .inl hp
        · exact .inr hp
theorem ents_canon (l : List St) (fr : Nat) : Canon (mp fr l) := by
  refine ⟨_, rfl, ?_, fun p hp => ?_⟩
  · induction l generalizing fr with
    | nil => exact List.Pairwise.nil
    | cons s r ih =>
      cases s with
      | none => exact ih (fr + 1)
      | some x =>
        obtain ⟨h, g⟩ := x
        refine List.pairwise_cons.2 ⟨fun q hq => ?_, ih (fr + 1)⟩
        obtain ⟨i, h', g', _, rfl⟩ := (ents_mem r (fr + 1) q).1 hq
        simp [Lit.before]
        omega
  · obtain ⟨i, h, g, _, rfl⟩ := (ents_mem l fr p).1 hp
    trivial
theorem sec_mem {fr : Nat} {l : List St} {n : Int} {h : Nat} {g : Int} : sec fr l n = some (h, g) ↔ ∃ i : Nat, l[i]? = some (some (h, g)) ∧ n = (fr : Int) + (i : Int) := by
  constructor
  · intro hs
    have hi := sec_some hs
    refine ⟨ix fr n, by rw [sec_at hi, hs], ?_⟩
    have := ix_eq hi
    omega
  · rintro ⟨i, hi, rfl⟩
    obtain ⟨hl, he⟩ := List.getElem?_eq_some_iff.1 hi
    rw [sec_of hl, he]
theorem mp_has (fr : Nat) (l : List St) (n : Int) : Maps.has (mp fr l) (.int .i64 n) = (sec fr l n).isSome := by
  apply Bool.eq_iff_iff.2
  unfold mp
  rw [Maps.has_eq, List.any_eq_true]
  constructor
  · rintro ⟨p, hp, hk⟩
    obtain ⟨i, h, g, hi, rfl⟩ := (ents_mem l fr p).1 hp
    simp [Lit.sameKey] at hk
    rw [sec_mem.2 ⟨i, hi, hk.symm⟩]
    rfl
  · intro hs
    obtain ⟨x, hx⟩ := Option.isSome_iff_exists.1 hs
    obtain ⟨h, g⟩ := x
    obtain ⟨i, hi, rfl⟩ := sec_mem.1 hx
    exact ⟨_, (ents_mem l fr _).2 ⟨i, h, g, hi, rfl⟩, by simp [Lit.sameKey]⟩
theorem mp_has_key (fr : Nat) (l : List St) (kl : Lit) (h : Maps.has (mp fr l) kl = true) : ∃ (i h' : Nat) (g : Int), l[i]? = some (some (h', g)) ∧ kl = .int .i64 ((fr : Int) + (i : Int)) := by
  unfold mp at h
  rw [Maps.has_eq, List.any_eq_true] at h
  obtain ⟨p, hp, hk⟩ := h
  obtain ⟨i, h, g, hi, rfl⟩ := (ents_mem l fr p).1 hp
  exact ⟨i, h, g, hi, (WideAt.sameKey_eq hk).symm⟩
theorem mp_at {fr : Nat} {l : List St} {n : Int} {h : Nat} {g : Int} (hs : sec fr l n = some (h, g)) (z : DataW Unit) : (mp fr l).atKey (.int .i64 n) z = datum h g := by
  obtain ⟨es, he, hp, hk⟩ := ents_canon l fr
  obtain ⟨i, hi, rfl⟩ := sec_mem.1 hs
  exact WideAt.atKey_mem z trivial (Maps.apart_of_rising (by cases he; exact hp)) ((ents_mem l fr _).2 ⟨i, h, g, hi, rfl⟩)
theorem mp_size : ∀ (l : List St) (fr : Nat), Maps.size (mp fr l) + room l = l.length
  | [], _ => rfl
  | none :: r, fr => by
    have := mp_size r (fr + 1)
    unfold mp room at *
    simp only [Maps.size_eq, ents, List.countP_cons, List.length_cons, freeS] at *
    simp
    omega
  | some (h, g) :: r, fr => by
    have := mp_size r (fr + 1)
    unfold mp room at *
    simp only [Maps.size_eq, ents, List.countP_cons, List.length_cons, freeS] at *
    simp
    omega
theorem mp_put {fr : Nat} {l : List St} {n : Int} (hi : In fr l n) (h : Nat) (g : Int) (hc : Canon ((mp fr l).put (.int .i64 n) (datum h g))) : (mp fr l).put (.int .i64 n) (datum h g) = mp fr (upd fr l n (some (h, g))) := by
  have hm : IsMap (mp fr l) := ⟨_, rfl⟩
  refine Maps.ext hc (ents_canon _ _) (fun k => ?_) (fun k z hk => ?_)
  · by_cases e : k = .int .i64 n
    · subst e
      rw [has_put_same hm (k := .int .i64 n) trivial, mp_has, sec_upd hi]
      rfl
    · rw [has_put_other e]
      cases hh : Maps.has (mp fr l) k with
      | true =>
        obtain ⟨i, h', g', hl, rfl⟩ := mp_has_key _ _ _ hh
        rw [mp_has, sec_upd_ne (fun e' => e (by rw [e'])), ← mp_has, hh]
      | false =>
        cases hh2 : Maps.has (mp fr (upd fr l n (some (h, g)))) k with
        | false => rfl
        | true =>
          obtain ⟨i, h', g', hl, rfl⟩ := mp_has_key _ _ _ hh2
          rw [mp_has, sec_upd_ne (fun e' => e (by rw [e'])), ← mp_has, hh] at hh2
          exact hh2
  · by_cases e : k = .int .i64 n
    · subst e
      rw [atKey_put_same hm (k := .int .i64 n) trivial, mp_at (sec_upd hi)]
    · rw [has_put_other e] at hk
      rw [atKey_put_other e]
      obtain ⟨i, h', g', hl, rfl⟩ := mp_has_key _ _ _ hk
      have h1 : sec fr l ((fr : Int) + (i : Int)) = some (h', g') := sec_mem.2 ⟨i, hl, rfl⟩
      rw [mp_at h1, mp_at (by rw [sec_upd_ne (fun e' => e (by rw [e']))]; exact h1)]
theorem mp_del {fr : Nat} {l : List St} {n : Int} (hi : In fr l n) (hc : Canon ((mp fr l).del (.int .i64 n))) : (mp fr l).del (.int .i64 n) = mp fr (upd fr l n none) := by
  refine Maps.ext hc (ents_canon _ _) (fun k => ?_) (fun k z hk => ?_)
  · by_cases e : k = .int .i64 n
    · subst e
      rw [has_del_same, mp_has, sec_upd hi]
      rfl
    · rw [has_del_other e]
      cases hh : Maps.has (mp fr l) k with
      | true =>
        obtain ⟨i, h', g', hl, rfl⟩ := mp_has_key _ _ _ hh
        rw [mp_has, sec_upd_ne (fun e' => e (by rw [e'])), ← mp_has, hh]
      | false =>
        cases hh2 : Maps.has (mp fr (upd fr l n none)) k with
        | false => rfl
        | true =>
          obtain ⟨i, h', g', hl, rfl⟩ := mp_has_key _ _ _ hh2
          rw [mp_has, sec_upd_ne (fun e' => e (by rw [e'])), ← mp_has, hh] at hh2
          exact hh2
  · by_cases e : k = .int .i64 n
    · subst e
      rw [has_del_same] at hk
      cases hk
    · rw [has_del_other e] at hk
      rw [atKey_del_other e]
      obtain ⟨i, h', g', hl, rfl⟩ := mp_has_key _ _ _ hk
      have h1 : sec fr l ((fr : Int) + (i : Int)) = some (h', g') := sec_mem.2 ⟨i, hl, rfl⟩
      rw [mp_at h1, mp_at (by rw [sec_upd_ne (fun e' => e (by rw [e']))]; exact h1)]

/-- block b is the map of these sectors -/
def Sec (w : World) (b fr : Nat) (l : List St) : Prop := w.ownsMap Tryz.prog 3 secR b 4096 (mp fr l)

theorem ownsMap_tight {w : World} {b n m : Nat} {D : DataW Unit} (h : w.ownsMap Tryz.prog 3 secR b n D) (hm : Maps.size D ≤ m) : w.ownsMap Tryz.prog 3 secR b m D := by
  obtain ⟨es, clock, hb, F, hs, hD⟩ := h
  refine ⟨es, clock, hb, F, ?_, hD⟩
  rw [hD] at hm
  simpa [Maps.size, length_sorted] using hm

variable {w w' : World} {b fr : Nat} {l : List St}

theorem Sec.lt (h : Sec w b fr l) : b < w.heap.size := World.ownsMap.lt h
theorem Sec.same (h : Sec w b fr l) (hb : w'.heap[b]? = w.heap[b]?) : Sec w' b fr l := by
  obtain ⟨es, clock, h1, r1⟩ := h
  exact ⟨es, clock, hb.trans h1, r1⟩
theorem Sec.kind (h : Sec w b fr l) : ∃ es clock, w.heap[b]? = some (.map es clock) := by
  obtain ⟨es, clock, h1, _⟩ := h
  exact ⟨es, clock, h1⟩
theorem ents_new (k fr : Nat) : ents fr (List.replicate k none) = [] := by
  induction k generalizing fr with
  | zero => rfl
  | succ k ih => rw [List.replicate_succ]; exact ih (fr + 1)
theorem Sec.made (w : World) (k : Nat) : Sec (w.alloc (.map #[] 0)) w.heap.size fr (List.replicate k none) := by
  unfold Sec mp
  rw [ents_new]
  exact (World.ownsMap_made w Tryz.prog 3 secR).mono (Nat.zero_le _)
theorem Sec.look_any (h : Sec w b fr l) {n : Int} (hn : I64 n) : (Instr.lookup 153 (.map (some b)) (.int .i64 n) true).run Tryz.prog w = .ok (.tuple #[secV (sec fr l n), .bool (sec fr l n).isSome]) w ∧
    (Instr.lookup 153 (.map (some b)) (.int .i64 n) false).run Tryz.prog w = .ok (secV (sec fr l n)) w := by
  have z0 : secR (.agg #[.int .i64 0, .int .i64 0]) = some (datum 0 0, []) := secR_mk 0 0
  obtain ⟨v, ps, hrun, hv⟩ := World.ownsMap.look_ok h law3 Tryz.underlying153 (zero56 w) z0 (key3 hn)
  obtain ⟨v2, ps2, hrun2, hv2⟩ := World.ownsMap.lookup h law3 Tryz.underlying153 (zero56 w) z0 (key3 hn)
  have key : ∀ v ps, secR v = some ((mp fr l).atKey (.int .i64 n) (datum 0 0), ps) → v = secV (sec fr l n) := by
    intro v ps hv
    obtain ⟨h', g', rfl, hd⟩ := secR_inv hv
    have hd := congrArg Prod.fst hd
    simp only at hd
    cases hs : sec fr l n with
    | none =>
      have hh : Maps.has (mp fr l) (.int .i64 n) = false := by rw [mp_has, hs]; rfl
      rw [Maps.atKey_of_not_has hh] at hd
      obtain ⟨e1, e2⟩ := datum_inj hd
      subst e1 e2
      rfl
    | some x =>
      obtain ⟨h2, g2⟩ := x
      rw [mp_at hs] at hd
      obtain ⟨e1, e2⟩ := datum_inj hd
      subst e1 e2
      rfl
  rw [hrun, hrun2, mp_has, key v ps hv, key v2 ps2 hv2]
  exact ⟨rfl, rfl⟩
theorem Sec.store (h : Sec w b fr l) (hok : Ok fr l) {n : Int} (hi : In fr l n) (c : Nat) (g : Int) :
    ∃ w', (Instr.mapUpdate 153 (.map (some b)) (.int .i64 n) (.agg #[.int .i64 (c : Int), .int .i64 g])).run Tryz.prog w = .ok () w' ∧ Sec w' b fr (upd fr l n (some (c, g))) ∧ w.grownBy w' (some b) := by
  have hn : I64 n := by have := hok.few; unfold In at hi; unfold I64; omega
  obtain ⟨w', hrun, hown, hg⟩ := World.ownsMap.update h law3 Tryz.underlying153 (by decide) (key3 hn) (secR_mk c g)
  rw [mp_put hi c g (hown.canon law3)] at hown
  refine ⟨w', hrun, ownsMap_tight hown ?_, hg⟩
  have h1 := mp_size (upd fr l n (some (c, g))) fr
  rw [upd_length] at h1
  have := hok.few
  omega
theorem Sec.del (h : Sec w b fr l) (hok : Ok fr l) {n : Int} (hi : In fr l n) (ty : TypeId) :
    ∃ w', (Builtin.delete_ #[153, 3] ty #[.map (some b), .int .i64 n]).run Tryz.prog w = .ok (.tuple #[]) w' ∧ Sec w' b fr (upd fr l n none) ∧ w.grownBy w' (some b) := by
  have hn : I64 n := by have := hok.few; unfold In at hi; unfold I64; omega
  obtain ⟨w', hrun, hown, hg⟩ := World.ownsMap.drop h law3 Tryz.underlying153 (key3 hn) ty
  rw [mp_del hi (hown.canon law3)] at hown
  exact ⟨w', hrun, hown, hg.grown⟩
end Go.Proofs.YtdelobaiicoogaaGreatDoor.L5
