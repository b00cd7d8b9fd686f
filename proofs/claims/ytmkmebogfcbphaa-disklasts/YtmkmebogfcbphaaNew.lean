/- New disks: New, and the parts of Copy and Crash. -/
import Derived.Test.YtmkmebogfcbphaaFlush
import Derived.Lib.SliceRun
namespace Go.Proofs.Ytmkmebogfcbphaa
open Go.ChangeShapes Go.WideShapes Go.ChangeAt Go.RowKit Go.Maps

variable {d : Nat} {m : Dk} {c fb lb : Nat} {ov : Value}

def madeW (w : World) (n : Int) (fb : Nat) : World := (w.alloc (.map #[] 0)).alloc (.cells #[.int .i64 n, .int .i64 (-1), .map (some fb), .map (some w.heap.size), .slice none 0 0] 68)
set_option maxHeartbeats 1000000 in
theorem started_run (n : Int) (fb : Nat) (w : World) :
    Calls Try.prog 25 #[.int .i64 n, .map (some fb)] w fun e w' => e = .returned (.pointer (some ⟨w.heap.size + 1, 0, none⟩)) ∧ w' = madeW w n fb := by
  have hmm := @run_makeMap Try.prog
  go_enter Try.func25, Try.ntmps25
  go_wp2
  go_ret
  exact ⟨rfl, rfl⟩
theorem madeW_below (w : World) (n : Int) (fb : Nat) : Below w.heap.size w (madeW w n fb) := ((Below.refl _ _).alloc (Nat.le_refl _) _).alloc (by simp) _
theorem madeW_disk (w : World) (old : List ByteArray) (fb nf : Nat) (F : Nat → Option ByteArray) (h : Sec w fb nf F) (hF : ∀ i, i < old.length → (F i).getD zeros = old.getD i ByteArray.empty)
    (hok : Ok ⟨old, [], -1, false⟩) (hc : nf ≤ c) : DiskAt (madeW w (old.length : Int) fb) (w.heap.size + 1) ⟨old, [], -1, false⟩ c fb w.heap.size (.slice none 0 0) := by
  have hlt := h.lt
  refine ⟨?_, ⟨F, nf, h.same ((madeW_below _ _ _).block _ hlt), hc, hF⟩, ⟨fun _ => none, ?_, fun i _ => rfl⟩, World.ownsRow_nil _ _ _ _, by omega, by simp [Value.ownBlock], hok⟩
  · unfold madeW
    show ((w.heap.push _).push _)[w.heap.size + 1]? = _
    rw [Array.getElem?_push, if_pos (by simp)]
    rfl
  · refine (Sec.made w).same ?_
    unfold madeW
    exact Below.heap_alloc _ _ _ (by simp)
theorem started_any (old : List ByteArray) (fb nf : Nat) (F : Nat → Option ByteArray) (w : World) (h : Sec w fb nf F) (hF : ∀ i, i < old.length → (F i).getD zeros = old.getD i ByteArray.empty)
    (hok : Ok ⟨old, [], -1, false⟩) (hc : nf ≤ c) :
    Calls Try.prog 25 #[.int .i64 (old.length : Int), .map (some fb)] w fun e w' => e = .returned (.pointer (some ⟨w.heap.size + 1, 0, none⟩)) ∧ DiskAt w' (w.heap.size + 1) ⟨old, [], -1, false⟩ c fb w.heap.size (.slice none 0 0) ∧ Below w.heap.size w w' := by
  refine (started_run _ fb w).mono ?_
  rintro e w' ⟨rfl, rfl⟩
  exact ⟨rfl, madeW_disk w old fb nf F h hF hok hc, madeW_below _ _ _⟩

/-- a new disk -/
def newM (n : Nat) : Dk := ⟨List.replicate n zeros, [], -1, false⟩
theorem getD_rep (n i : Nat) (h : i < n) (s z : ByteArray) : (List.replicate n s).getD i z = s := by
  rw [List.getD_eq_getElem?_getD, List.getElem?_replicate, if_pos h]
  rfl
theorem newM_ok (n : Nat) (h : n ≤ 4096) : Ok (newM n) := by
  refine ⟨?_, (fun p hp => absurd hp List.not_mem_nil), (by show (-1 : Int) ≤ -1 ∧ (-1 : Int) ≤ 9223372036854775807; omega), ?_⟩
  · intro i hi
    have hi' : i < n := by simpa [newM] using hi
    show ((List.replicate n zeros).getD i ByteArray.empty).size = 1024
    rw [getD_rep _ _ hi']
    exact zeros_size
  · show (List.replicate n zeros).length ≤ 4096
    rw [List.length_replicate]
    exact h

set_option maxHeartbeats 1000000 in
set_option maxRecDepth 20000 in
theorem new_bad (n : Int) (w : World) (h : n < 1 ∨ 4096 < n) : Calls Try.prog 10 #[.int .i64 n] w fun e w' => e = .returned (.tuple #[.pointer none, .int .i64 1]) ∧ w' = w := by
  by_cases h1 : n < 1
  · go_enter Try.func10, Try.ntmps10
    go_wp2
    go_ret2
    exact ⟨rfl, rfl⟩
  · have h2 : 4096 < n := by omega
    go_enter Try.func10, Try.ntmps10
    go_wp2
    go_ret2
    exact ⟨rfl, rfl⟩
set_option maxHeartbeats 1000000 in
set_option maxRecDepth 20000 in
theorem new_any (n : Int) (w : World) (h1 : 1 ≤ n) (h2 : n ≤ 4096) : Calls Try.prog 10 #[.int .i64 n] w fun e w' => ∃ d fp, e = .returned (.tuple #[.pointer (some ⟨d, 0, none⟩), .int .i64 0]) ∧ IsDisk w' d (newM n.toNat) 0 fp ∧ Below w.heap.size w w' ∧ (∀ x ∈ fp, w.heap.size ≤ x) := by
  have h3 : ¬ n < 1 := by omega
  have h4 : ¬ 4096 < n := by omega
  have hmm := @run_makeMap Try.prog
  have hst := started_any (c := 0) (List.replicate n.toNat zeros) w.heap.size 0 (fun _ => none) (w.alloc (.map #[] 0)) (Sec.made w)
    (fun i hi => by rw [getD_rep _ _ (by simpa using hi)]; rfl) (newM_ok n.toNat (by omega)) (Nat.le_refl _)
  have en : ((List.replicate n.toNat zeros).length : Int) = n := by rw [List.length_replicate]; omega
  rw [en] at hst
  have HST := hide hst
  clear hst en h1 h2
  go_enter Try.func10, Try.ntmps10
  go_wp2_with (go_at_call 25; refine (unhide HST).mono ?_; rintro e w' ⟨rfl, hA, hb⟩)
  have es : (w.alloc (.map #[] 0)).heap.size = w.heap.size + 1 := by simp
  rw [es] at hA hb
  go_ret2
  refine ⟨_, _, rfl, ⟨_, _, _, hA, rfl⟩, ((Below.refl _ _).alloc (Nat.le_refl _) _).trans (hb.mono (by simp)), ?_⟩
  intro x hx
  simp [fpOf, Value.ownBlock] at hx
  omega

/-- append of what another slice has -/
theorem run_app_src {t e : TypeId} {z : Value} {size bytes : Nat} (ht : Try.prog.underlying t = some (.slice e)) (hinfo : (Try.prog.info? e).map (fun i => (i.zero, i.size, i.bytes)) = some (some z, size, bytes)) (hzs : z.cells.size = size) (hsz : 0 < size)
    (B : Nat) (ty : TypeId) (w : World) (v src : Value) (n k : Nat) (xs ys : List Value) (hown : w.ownsRow B e size v n xs) (hsrc : w.ownsRow 0 e size src k ys) (h1 : ∀ u ∈ ys, u.oneCell' = true)
    (hl2 : n + k ≤ 140737488355328) (hlen : (n + k) * bytes ≤ 140737488355328) (hB : B ≤ w.heap.size) :
    ∃ v' w', (Builtin.append_ #[t, t] ty #[v, src]).run Try.prog w = .ok v' w' ∧ w'.ownsRow B e size v' (n + k) (xs ++ ys) ∧ w.grownBy w' v.ownBlock ∧ (v'.ownBlock = v.ownBlock ∨ v'.ownBlock = some w.heap.size) := by
  obtain ⟨i0, hi, hz0, hz1, hz2⟩ := info_parts hinfo
  have hs := hsrc
  rcases hsrc.2 with ⟨rfl, rfl⟩ | ⟨g, cap, cur, rfl, _⟩
  · have hy : ys = [] := List.eq_nil_of_length_eq_zero (by simpa using hsrc.1)
    subst hy
    refine ⟨v, w, ?_, by rw [List.append_nil]; exact hown, ⟨rfl, rfl, rfl, Nat.le_refl _, fun _ _ _ => rfl⟩, .inl rfl⟩
    rcases hown.2 with ⟨rfl, hn⟩ | ⟨g, cp, cur, rfl, _, _, hnc, _⟩
    · simp [Builtin.append_, run_underlying ht, sizeOf, typeInfo, hi, Builtin.lenOf, Builtin.firstCells]
    · simp [Builtin.append_, run_underlying ht, sizeOf, typeInfo, hi, Builtin.lenOf, Builtin.firstCells, hnc, storeCells]
  · obtain ⟨v', w', hr, ho', hg, _, hloc⟩ := run_append_own_at (P := Try.prog) w B t ty e i0 z size bytes ht hi hz0 hz1 hz2 hzs hsz v n xs hown ⟨g, 0, none⟩ k cap ys hs.1 (hs.cells rfl) h1 (by unfold maxLen; omega) hlen hB
    exact ⟨v', w', hr, ho', hg, hloc⟩

theorem app_src {ops : Array Oper} {rest : List Oper} {o : Oper} {a : Act} {Q : Exit → Act → World → Prop} {t e : TypeId} {z : Value} {size bytes : Nat} {B : Nat} {w : World} {v src : Value} {n k : Nat} {xs ys : List Value}
    (ht : Try.prog.underlying t = some (.slice e)) (hinfo : (Try.prog.info? e).map (fun i => (i.zero, i.size, i.bytes)) = some (some z, size, bytes)) (hzs : z.cells.size = size) (hsz : 0 < size)
    (hwant : Region.wanted o (yielded ops a.tmps) = true) (s x : Operand) (ho : o.op = .call { callee := .builtin .append, args := #[s, x], argTypes := #[t, t] })
    (hs : a.eval s = v) (hx : a.eval x = src) (hown : w.ownsRow B e size v n xs) (hsrc : w.ownsRow 0 e size src k ys) (h1 : ∀ u ∈ ys, u.oneCell' = true)
    (hl2 : n + k ≤ 140737488355328) (hlen : (n + k) * bytes ≤ 140737488355328) (hB : B ≤ w.heap.size)
    (h : ∀ v' w', w'.ownsRow B e size v' (n + k) (xs ++ ys) → w.grownBy w' v.ownBlock → (v'.ownBlock = v.ownBlock ∨ v'.ownBlock = some w.heap.size) → wpList Try.prog ops Q rest (a.put o.dst v') w') :
    wpList Try.prog ops Q (o :: rest) a w := by
  obtain ⟨v', w', hr, r1, r2, r3⟩ := run_app_src ht hinfo hzs hsz B o.type w v src n k xs ys hown hsrc h1 hl2 hlen hB
  refine BigFrame.wpList_want hwant fun K hK => ?_
  unfold Oper.wp execOp
  simp only [ho, resolve, invoke, builtin, Sem.run_bind, Sem.run_pure, Result.andThen_ok, List.map_toArray, List.map_cons, List.map_nil, hs, hx, hr]
  exact hK _ _ (h v' w' r1 r2 r3)

theorem opCells_one (op : List (Nat × ByteArray)) : ∀ u ∈ opCells op, u.oneCell' = true := by
  intro u hu
  obtain ⟨p, _, hu⟩ := List.mem_flatMap.1 hu
  simp at hu
  rcases hu with rfl | rfl <;> rfl

/-- an empty row in new memory -/
theorem ownsRow_empty (w : World) (e : TypeId) (size : Nat) : (w.alloc (.cells #[] e)).ownsRow w.heap.size e size (.slice (some ⟨w.heap.size, 0, none⟩) 0 0) 0 [] :=
  World.ownsRow_made w #[] 0 (Nat.le_refl _) (Nat.zero_le _) (by simp)
theorem ownsRow_base {w : World} {B B' : Nat} {e : TypeId} {size : Nat} {v : Value} {n : Nat} {xs : List Value} (h : w.ownsRow B e size v n xs) (hB : B' ≤ B) : w.ownsRow B' e size v n xs := by
  refine ⟨h.1, ?_⟩
  rcases h.2 with h2 | ⟨g, cap, cur, e, hg, r⟩
  · exact .inl h2
  · exact .inr ⟨g, cap, cur, e, by omega, r⟩

set_option maxHeartbeats 1000000 in
set_option maxRecDepth 20000 in
theorem sliceClone_any (op : List (Nat × ByteArray)) (ov : Value) (w : World) (h : w.ownsRow 0 76 2 ov op.length (opCells op)) (hl : op.length ≤ 1000000) :
    Calls Try.prog 41 #[ov] w fun e w' => ∃ ov', e = .returned ov' ∧ w'.ownsRow w.heap.size 76 2 ov' op.length (opCells op) ∧ Below w.heap.size w w' := by
  have HO := hide h
  have HL := hide hl
  rcases h.2 with ⟨rfl, h0⟩ | ⟨g, cap, cur, rfl, _⟩
  · have hop : op = [] := List.length_eq_zero_iff.1 h0
    subst hop
    clear h hl
    have hq := fun w => Lib.run_eql_slice_nil (P := Try.prog) w 66 76 none 0 0 0 0 Try.underlying66
    go_enter Try.func41, Try.ntmps41
    go_wp2
    go_ret
    exact ⟨_, rfl, World.ownsRow_nil _ _ _ _, Below.refl _ _⟩
  · clear h hl
    have hq := fun w => Lib.run_eql_slice_nil (P := Try.prog) w 66 76 (some ⟨g, 0, none⟩) op.length cap 0 0 Try.underlying66
    go_enter Try.func41, Try.ntmps41
    go_wp2_with (first
      | (at_builtin; refine app_src (v := .slice (some ⟨w.heap.size, 0, none⟩) 0 0) (B := w.heap.size) Try.underlying66 info76 rfl (by decide) rfl _ _ rfl rfl rfl (ownsRow_empty w 76 2) ((unhide HO).alloc _) (opCells_one op) (by have := unhide HL; omega) (by have := unhide HL; omega) (by simp) ?_; intro v' w' hown hg _)
      | go_in)
    go_ret
    refine ⟨_, rfl, ?_, ?_⟩
    · rw [Nat.zero_add, List.nil_append] at hown
      exact hown
    · exact ((Below.refl _ _).alloc (Nat.le_refl _) _).grown hg (by simp) (fun k hk => by simp [Value.ownBlock] at hk; omega)
end Go.Proofs.Ytmkmebogfcbphaa
