/- The document's disk: New. -/
import Derived.Test.YtmkmebogfcbphaaRefc
import Derived.OwnWalk
namespace Go.Proofs.Ytmkmebogfcbphaa
open Go.ChangeShapes Go.WideShapes Go.ChangeAt Go.RowKit

variable {r : Nat} {m : Dk} {ov pv : Value}

theorem zeros_strOf : strOf (List.replicate 1024 0) = zeros := by
  apply data_inj
  unfold strOf
  rw [strOfNums_data, List.map_replicate, List.map_replicate]
  rfl

theorem made_zeros (n : Nat) : (madeCells (Value.int .u8 0).cells (n * 1)).toList = cells (List.replicate n 0) := by
  have e : ∀ i, (Value.int .u8 0).cells[i % (Value.int .u8 0).cells.size]! = Value.int .u8 0 := by
    intro i
    show (#[Value.int .u8 0])[i % 1]! = _
    rw [Nat.mod_one]
    rfl
  unfold madeCells cells
  rw [Array.toList_map, Array.toList_range, List.map_replicate, List.map_congr_left (fun i _ => e i), List.map_const', List.length_range, Nat.mul_one]
  rfl

/-- zeros by make -/
theorem make_zeros {ops : Array Oper} {rest : List Oper} {o : Oper} {a : Act} {Q : Exit → Act → World → Prop} {w : World} {n : Nat} {L : Int}
    (hg : o.guard = none) (l c : Operand) (hop : o.op = Op.makeSlice 65 l c) (hl : a.eval l = .int .i64 L) (hc : a.eval c = .int .i64 L) (hL : L = (n : Int)) (hn : n ≤ 5000)
    (hK : ∀ w', Own w.heap.size w' (.slice (some ⟨w.heap.size, 0, none⟩) n n) (List.replicate n 0) → Below w.heap.size w w' → wpList Try.prog ops Q rest (a.put o.dst (.slice (some ⟨w.heap.size, 0, none⟩) n n)) w') :
    wpList Try.prog ops Q (o :: rest) a w := by
  obtain ⟨i0, hi, hz0, hz1, hz2⟩ := info_parts info5
  refine wpList_make_full w hg l c 65 hop w.heap.size 5 i0 (.int .u8 0) 1 Try.underlying65 hi hz0 hz1 .i64 .i64 L L n hl hc hL hL (by rw [hz2]; omega) (by unfold maxLen; omega) (Nat.le_refl _) ?_
  intro w' h1 h2
  rw [made_zeros] at h1
  refine hK w' ?_ ((Below.refl _ _).grown h2 (Nat.le_refl _) (fun k hk => by cases hk))
  unfold Own
  rw [List.length_replicate]
  exact h1

set_option maxHeartbeats 1000000 in
set_option maxRecDepth 100000 in
theorem rzeros_any (w : World) : Calls Try.prog 26 #[] w fun e w' => e = .returned (.string zeros) ∧ Below w.heap.size w w' := by
  go_enter Try.func26, Try.ntmps26
  go_wp2_with (first
    | (refine make_zeros (n := 1024) rfl _ _ rfl rfl rfl rfl (by decide) ?_; intro w1 hown hb; have hcv := conv_own hown; rw [zeros_strOf] at hcv; clear hown)
    | go_in)
  go_ret
  exact ⟨rfl, hb⟩

theorem RefAt.longer {w w5 : World} {s : ByteArray} {ov' : Value} (h : RefAt w r m ov pv) (hok : Ok { m with old := m.old ++ [s] })
    (hown : w5.ownsRow 0 9 1 ov' (m.old.length + 1) (strs (m.old ++ [s]))) (hg5 : w.grownBy w5 ov.ownBlock) (hloc : ov'.ownBlock = ov.ownBlock ∨ ∃ g, ov'.ownBlock = some g ∧ w.heap.size ≤ g) :
    RefAt (w5.setCell ⟨r, 0, none⟩ ov') r { m with old := m.old ++ [s] } ov' pv := by
  have hr5 : w5.heap[r]? = w.heap[r]? := hg5.block r h.rlt (fun e => h.no e.symm)
  have hno : ov'.ownBlock ≠ some r := by
    rcases hloc with e | ⟨g, e, hg⟩
    · rw [e]; exact h.no
    · rw [e]
      have := h.rlt
      simp
      omega
  refine ⟨?_, ?_, ?_, hok⟩
  · have hb := hr5.trans h.blk
    simp [World.setCell, Array.getElem?_modify, hb]
  · show World.ownsRow _ 0 9 1 ov' (m.old ++ [s]).length _
    rw [List.length_append]
    exact ownsRow_same hown (fun g hg => Below.heap_setCell _ _ _ _ (by intro e; exact hno (by rw [hg, e])))
  · exact ownsRow_same h.op (fun g hg => (Below.heap_setCell _ _ _ _ (by intro e; exact h.np (by rw [hg, e]))).trans (hg5.block g (h.op.lt g hg).2 (fun e => h.nn g e.symm hg)))

set_option maxHeartbeats 1000000 in
set_option maxRecDepth 20000 in
theorem rnew_bad (n : Int) (w : World) (h : n < 1 ∨ 4096 < n) : Calls Try.prog 11 #[.int .i64 n] w fun e w' => e = .returned (.tuple #[.pointer none, .int .i64 1]) ∧ w' = w := by
  by_cases h1 : n < 1
  · go_enter Try.func11, Try.ntmps11
    go_wp2
    go_ret2
    exact ⟨rfl, rfl⟩
  · have h2 : 4096 < n := by omega
    go_enter Try.func11, Try.ntmps11
    go_wp2
    go_ret2
    exact ⟨rfl, rfl⟩

set_option maxHeartbeats 2000000 in
set_option maxRecDepth 20000 in
theorem rnew_any (n : Nat) (w : World) (h1 : 1 ≤ n) (h2 : n ≤ 4096) : Calls Try.prog 11 #[.int .i64 (n : Int)] w fun e w' => ∃ r fp, e = .returned (.tuple #[.pointer (some ⟨r, 0, none⟩), .int .i64 0]) ∧ IsRef w' r (newM n) fp ∧ Below w.heap.size w w' ∧ (∀ x ∈ fp, w.heap.size ≤ x) := by
  have h3 : ¬ (n : Int) < 1 := by omega
  have h4 : ¬ 4096 < (n : Int) := by omega
  go_enter Try.func11, Try.ntmps11
  go_wp2_with (go_at_call 26; refine (rzeros_any _).mono ?_; rintro e w1 ⟨rfl, hb1⟩; have HB1 := hide hb1; clear hb1)
  have hA1 : RefAt w1 w.heap.size (newM 0) (.slice none 0 0) (.slice none 0 0) := by
    have hb1 := unhide HB1
    refine ⟨?_, World.ownsRow_nil _ _ _ _, World.ownsRow_nil _ _ _ _, newM_ok 0 (by omega)⟩
    refine (hb1.block w.heap.size (by simp)).trans ?_
    show (w.heap.push _)[w.heap.size]? = _
    rw [Array.getElem?_push, if_pos rfl]
    rfl
  have HA1 := hide hA1
  have HW1 : Hid (Below w.heap.size w w1) := ((Below.refl _ _).alloc (Nat.le_refl _) _).trans ((unhide HB1).mono (by simp))
  obtain ⟨r, hr⟩ : ∃ x, x = w.heap.size := ⟨_, rfl⟩
  have HR := hide hr
  rw [← hr] at HA1 ⊢
  clear hA1 HB1 hr
  go_loopw [6] (fun j wr => ∃ (k : Nat) (ov : Value), k ≤ n ∧ j = .int .i64 (k : Int) ∧ RefAt wr r (newM k) ov (.slice none 0 0) ∧ Below w.heap.size w wr ∧ ∀ g, ov.ownBlock = some g → w.heap.size ≤ g) (fun j _ => n - (intOf j).toNat)
  case atStart => exact ⟨0, _, Nat.zero_le _, rfl, unhide HA1, unhide HW1, fun g hg => by cases hg⟩
  case round =>
    clear HA1 HW1
    obtain ⟨k, ov, hk, rfl, hA, hb, ho⟩ := hrel
    have HA := hide hA
    have HB := hide hb
    have HO := hide ho
    clear hb ho
    by_cases hlt : k < n
    · have hlt' : (k : Int) < (n : Int) := by omega
      have c0 := hA.cell0
      have HOld : Hid (wr.ownsRow 0 9 1 ov k (strs (List.replicate k zeros))) := by
        have := hA.old
        rw [show (newM k).old = List.replicate k zeros from rfl, List.length_replicate] at this
        exact this
      clear hA
      go_wp2_with (first
        | (at_builtin; refine app_gen (v := ov) (news := [.string zeros]) Try.underlying40 info9 rfl (by decide) rfl _ _ rfl rfl rfl (unhide HOld) (Nat.zero_le _) rfl (by intro u hu; simp at hu; subst hu; rfl) (by omega) (by omega) ?_; intro a5 cap5 w5 hown5 hg5 hloc; have hc5 := hg5.cell c0 (by have := (unhide HA).no; exact fun e => this e.symm); have hfr : w5.frozen? ⟨r, 0, none⟩ = false := (grown_frozen hg5 (unhide HA).rlt (by have := (unhide HA).no; exact fun e => this e.symm) 0).trans ((unhide HA).free 0); have HX := hide (And.intro hown5 (And.intro hg5 hloc)); clear hown5 hg5 hloc)
        | go_in)
      go_roundw
      case rel =>
        obtain ⟨hown5, hg5, hloc⟩ := unhide HX
        have hb := unhide HB
        have hl : RefAt (w5.setCell ⟨r, 0, none⟩ (.slice a5 (k + 1) cap5)) r (newM (k + 1)) (.slice a5 (k + 1) cap5) (.slice none 0 0) := by
          have e1 : (newM (k + 1)) = { newM k with old := (newM k).old ++ [zeros] } := by
            show (⟨List.replicate (k + 1) zeros, [], -1, false⟩ : Dk) = ⟨List.replicate k zeros ++ [zeros], [], -1, false⟩
            rw [List.replicate_succ']
          rw [e1]
          refine (unhide HA).longer (by rw [← e1]; exact newM_ok (k + 1) (by omega)) ?_ hg5 hloc
          show w5.ownsRow 0 9 1 _ ((List.replicate k zeros).length + 1) (strs (List.replicate k zeros ++ [zeros]))
          rw [List.length_replicate]
          simp only [strs, List.map_append, List.map_cons, List.map_nil]
          exact hown5
        refine ⟨k + 1, _, by omega, by go_num, hl, ?_, fun g hg => ?_⟩
        · have hb5 := hb.grown hg5 hb.size (fun g hg => unhide HO g hg)
          exact hb5.setCell (by have := unhide HR; show w.heap.size ≤ r; omega) _
        · rcases hloc with e | ⟨g', e, hg'⟩
          · rw [e] at hg
            exact unhide HO g hg
          · rw [e] at hg
            cases hg
            exact Nat.le_trans hb.size hg'
      case measure => simp [intOf]; omega
    · have hlt' : ¬ (k : Int) < (n : Int) := by omega
      have hkn : k = n := by omega
      subst hkn
      clear hA
      go_wp2
      go_ret2
      refine ⟨r, rfl, _, ⟨_, _, unhide HA, rfl⟩, unhide HB, ?_⟩
      intro x hx
      simp [rfOf, Value.ownBlock] at hx
      have := unhide HR
      rcases hx with h | h
      · omega
      · exact unhide HO x h
end Go.Proofs.Ytmkmebogfcbphaa
