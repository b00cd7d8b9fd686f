/- Texts that the proof needs, one behind the other. -/
import Derived.RangeFuncNested
import Derived.RangeFuncBound
import Derived.RangeFuncCalls
import Derived.RangeFuncLeaves
import Derived.WalkKit
import Derived.Test.YtdelobaiicoogaaGreatDoorMav
import Derived.Shelf.RegionOpen
import Derived.OwnWalkIn
import Derived.TacticsInMore
import Derived.LoopNIn
import Derived.LoopIn
import Derived.Test.YtdelobaiicoogaaGreatDoorMaq
import Derived.Test.YtdelobaiicoogaaGreatDoorMau
/- A range over a function, at the wide fence: the caller's and the iterator's own memory in one invariant. -/
namespace Go.Proofs.YtdelobaiicoogaaGreatDoor.Rf
open Go Go.RowKit

/-- the loop's record and the block for its rounds' deferred calls -/
structure Rdy (L D : Nat) (r : Loop) (W : World) : Prop where
  lp : W.heap[L]? = some (.loop r)
  dfr : W.heap[D]? = some (.deferred (some []))
theorem Rdy.same {L D : Nat} {r : Loop} {W W' : World} (h : Rdy L D r W) (h1 : W'.heap[L]? = W.heap[L]?) (h2 : W'.heap[D]? = W.heap[D]?) : Rdy L D r W' := ⟨h1.trans h.lp, h2.trans h.dfr⟩
/-- how a round's body is left -/
def post {α : Type} (L D : Nat) (K : World → World → Prop) (J : List α → World → Prop) (Jx : Code → List α → World → Prop) (xs : List α) (W : World) : Exit → Act → World → Prop
  | .normal, _, W' => (W'.heap[L]? = W.heap[L]? ∧ W'.heap[D]? = W.heap[D]?) ∧ J xs W' ∧ K W W'
  | .ret, _, W' => (W'.heap[L]? = W.heap[L]? ∧ W'.heap[D]? = W.heap[D]?) ∧ Jx .ret xs W'
  | .exit id, _, W' => (W'.heap[L]? = W.heap[L]? ∧ W'.heap[D]? = W.heap[D]?) ∧ Jx (.exit id) xs W'
  | .goto t, _, W' => (W'.heap[L]? = W.heap[L]? ∧ W'.heap[D]? = W.heap[D]?) ∧ Jx (.goto t) xs W'
  | .panic _, _, _ => False
  | .outgrown, _, _ => False

theorem law {α : Type} {P : Program} {g : Operand} {ps : Array Tmp} {assign body : Code} {Q : Exit → Act → World → Prop} {a : Act} {w : World} {n gf : Nat} {lb : Array Value}
    (hg : a.eval g = .func (.func gf) #[] lb) (eg : ∀ args w, (callFunc gf args).run P w = .ok (.enter gf args) w)
    (encs : α → Array Value) (hps : ∀ x, (encs x).size = ps.size)
    (J : List α → World → Prop) (Jx : Code → List α → World → Prop) (K : World → World → Prop) (hKt : ∀ {A B C : World}, K A B → K B C → K A C) (hKp : ∀ W r o, W.heap[w.heap.size + 1]? = some (.loop r) → K W (W.putObj (w.heap.size + 1) (.loop o)))
    (hJp : ∀ pre W r o, W.heap[w.heap.size + 1]? = some (.loop r) → J pre W → J pre (W.putObj (w.heap.size + 1) (.loop o)))
    (hXp : ∀ c pre W r o, W.heap[w.heap.size + 1]? = some (.loop r) → Jx c pre W → Jx c pre (W.putObj (w.heap.size + 1) (.loop o)))
    (A : List α → α → Act → World → Prop)
    (hAp : ∀ pre x a W r o, W.heap[w.heap.size + 1]? = some (.loop r) → A pre x a W → A pre x a (W.putObj (w.heap.size + 1) (.loop o)))
    (hassign : ∀ pre x W, w.heap.size + 1 < W.heap.size → J pre W → assign.wpIn (Fence.wide.inRound (w.heap.size + 1)) (n - 1 - 1) P (Exit.then (fun a₁ w₁ => (w₁.heap[w.heap.size + 1]? = W.heap[w.heap.size + 1]? ∧ w₁.heap[w.heap.size]? = W.heap[w.heap.size]?) ∧ A pre x a₁ w₁ ∧ K W w₁) (fun _ _ _ => False))
      { tmps := (ps.zip (encs x)).foldl (fun t (p, v) => t.setIfInBounds p v) a.tmps, defers := [] } W)
    (hbody : ∀ pre x a₁ W, w.heap.size + 1 < W.heap.size → A pre x a₁ W → body.wpIn (Fence.wide.inRound (w.heap.size + 1)) (n - 1 - 1) P (post (w.heap.size + 1) w.heap.size K J Jx (pre ++ [x]) W) a₁ W)
    (S Sp : List α → Prop)
    (hiter : ∀ (r0 : Loop) (rx : Code → Loop), Rdy (w.heap.size + 1) w.heap.size r0 ((w.alloc (.deferred (some []))).alloc (.loop r0)) →
      (∀ pre x W, J pre W → Rdy (w.heap.size + 1) w.heap.size r0 W → YieldAt Fence.wide (n - 1 - 1) P (w.heap.size + 1) (encs x) W fun e W' =>
        (e = .returned (.bool true) ∧ J (pre ++ [x]) W' ∧ Rdy (w.heap.size + 1) w.heap.size r0 W' ∧ K W W') ∨ (e = .returned (.bool false) ∧ ∃ c, Jx c (pre ++ [x]) W' ∧ Rdy (w.heap.size + 1) w.heap.size (rx c) W')) →
      CallsIn Fence.wide (n - 1) P gf (#[.func (.yield (w.heap.size + 1)) #[] #[]] ++ lb) ((w.alloc (.deferred (some []))).alloc (.loop r0)) fun e W' => (∃ v, e = .returned v) ∧
        ((∃ xs, S xs ∧ J xs W' ∧ Rdy (w.heap.size + 1) w.heap.size r0 W') ∨ (∃ pre c, Sp pre ∧ Jx c pre W' ∧ Rdy (w.heap.size + 1) w.heap.size (rx c) W')))
    (hdone : ∀ xs W, S xs → J xs W → W.heap[w.heap.size]? = some (.deferred (some [])) → Q .normal { a with defers := { target := .collected w.heap.size, args := #[] } :: a.defers } W)
    (hstop : ∀ c pre W, Sp pre → Jx c pre W → W.heap[w.heap.size]? = some (.deferred (some [])) → c.wpIn Fence.wide n P Q { a with defers := { target := .collected w.heap.size, args := #[] } :: a.defers } W) :
    (Code.rangeFunc g ps assign body).wpIn Fence.wide n P Q a w := by
  refine wpIn_rangeFunc ?_
  intro fn hfn
  obtain ⟨mk, hmk⟩ : ∃ mk : LoopState → Option Code → Loop, mk = fun st pe => { state := st, pending := pe, fn, tmps := a.tmps, params := ps, assign, body, defers := w.heap.size } := ⟨_, rfl⟩
  have hL1 : ((w.alloc (.deferred (some []))).alloc (.loop (mk .ready none))).heap[w.heap.size + 1]? = some (.loop (mk .ready none)) := by
    have := World.alloc_heap_new (w.alloc (.deferred (some []))) (.loop (mk .ready none))
    rwa [World.size_alloc] at this
  have hD1 : ((w.alloc (.deferred (some []))).alloc (.loop (mk .ready none))).heap[w.heap.size]? = some (.deferred (some [])) :=
    (Below.heap_alloc _ _ _ (by simp)).trans (World.alloc_heap_new w _)
  refine ⟨w.heap.size + 1, [{ target := .collected w.heap.size, args := #[] }], (w.alloc (.deferred (some []))).alloc (.loop (mk .ready none)), { target := .fn (.func gf) lb, args := #[.func (.yield (w.heap.size + 1)) #[] #[]] }, (w.alloc (.deferred (some []))).alloc (.loop (mk .ready none)), gf,
    #[.func (.yield (w.heap.size + 1)) #[] #[]] ++ lb, (w.alloc (.deferred (some []))).alloc (.loop (mk .ready none)), ?_, ?_, ?_, ?_, ?_, ?_⟩
  · rw [hmk]
    exact run_enterLoop_outer _ _ _ _ _
  · simp only [resolve, hg]
    simp [go_sem]
  · intro f' _
    trivial
  · simp [invoke, go_sem, eg]
  · intro h
    cases h
  · refine (hiter (mk .ready none) (fun c => mk .done (some c)) ⟨hL1, hD1⟩ ?_).mono ?_
    · intro pre x W hJ hR
      have hlt : w.heap.size + 1 < W.heap.size := (Array.getElem?_eq_some_iff.1 hR.lp).1
      have hy := run_yield (P := P) (args := encs x) hR.lp (by rw [hmk]; exact hps x)
      rw [hmk] at hy
      refine ⟨fn, _, assign, body, hy, roundIn_of_wpIn hfn (wpIn_mono (hassign pre x W hlt hJ) ?_)⟩
      clear hy
      intro e a₁ w₁ he
      cases e with
      | normal =>
        obtain ⟨⟨hs1, hs2⟩, hA, hK1⟩ := he
        have hR1 := hR.same hs1 hs2
        have hlt1 : w.heap.size + 1 < w₁.heap.size := (Array.getElem?_eq_some_iff.1 hR1.lp).1
        refine ⟨_, run_beginRound hR1.lp (by rw [hmk]), ?_⟩
        have hR2 : Rdy (w.heap.size + 1) w.heap.size { mk .ready none with state := .busy } (w₁.putObj (w.heap.size + 1) (.loop { mk .ready none with state := .busy })) :=
          ⟨World.putObj_heap_same hlt1, (World.putObj_heap_other (by omega)).trans hR1.dfr⟩
        refine wpIn_mono (hbody pre x a₁ _ (Array.getElem?_eq_some_iff.1 hR2.lp).1 (hAp pre x a₁ w₁ _ _ hR1.lp hA)) ?_
        have fin : ∀ (jump : Option Code) (W3 : World), Rdy (w.heap.size + 1) w.heap.size { mk .ready none with state := .busy } W3 →
            (Instr.endRound (w.heap.size + 1) jump).run P W3 = .ok (.bool jump.isNone) (W3.putObj (w.heap.size + 1) (.loop (mk (if jump.isNone then .ready else .done) jump))) ∧
            Rdy (w.heap.size + 1) w.heap.size (mk (if jump.isNone then .ready else .done) jump) (W3.putObj (w.heap.size + 1) (.loop (mk (if jump.isNone then .ready else .done) jump))) := by
          intro jump W3 h3
          have := run_endRound (P := P) jump h3.lp
          rw [hmk] at this ⊢
          exact ⟨this, World.putObj_heap_same (Array.getElem?_eq_some_iff.1 h3.lp).1, (World.putObj_heap_other (by omega)).trans h3.dfr⟩
        intro e a3 W3 hp
        cases e with
        | normal =>
          obtain ⟨⟨k1, k2⟩, hJ3, hK3⟩ := hp
          have h3 := hR2.same k1 k2
          obtain ⟨hr, h4⟩ := fin none W3 h3
          exact ⟨_, _, hr, .inl ⟨rfl, hJp _ _ _ _ h3.lp hJ3, h4, hKt hK1 (hKt (hKp _ _ _ hR1.lp) (hKt hK3 (hKp _ _ _ h3.lp)))⟩⟩
        | ret =>
          obtain ⟨⟨k1, k2⟩, hJ3⟩ := hp
          have h3 := hR2.same k1 k2
          obtain ⟨hr, h4⟩ := fin (some .ret) W3 h3
          exact ⟨_, _, hr, .inr ⟨rfl, .ret, hXp _ _ _ _ _ h3.lp hJ3, h4⟩⟩
        | exit id =>
          obtain ⟨⟨k1, k2⟩, hJ3⟩ := hp
          have h3 := hR2.same k1 k2
          obtain ⟨hr, h4⟩ := fin (some (.exit id)) W3 h3
          exact ⟨_, _, hr, .inr ⟨rfl, .exit id, hXp _ _ _ _ _ h3.lp hJ3, h4⟩⟩
        | goto t =>
          obtain ⟨⟨k1, k2⟩, hJ3⟩ := hp
          have h3 := hR2.same k1 k2
          obtain ⟨hr, h4⟩ := fin (some (.goto t)) W3 h3
          exact ⟨_, _, hr, .inr ⟨rfl, .goto t, hXp _ _ _ _ _ h3.lp hJ3, h4⟩⟩
        | panic ch => exact hp.elim
        | outgrown => exact hp.elim
      | ret => exact he.elim
      | exit id => exact he.elim
      | goto t => exact he.elim
      | panic ch => exact he.elim
      | outgrown => exact he.elim
    · rintro e W2 ⟨⟨v, rfl⟩, (⟨xs, hS, hJ, hR⟩ | ⟨pre, c, hSp, hX, hR⟩)⟩
      · exact ⟨none, _, by have := run_endLoop (P := P) hR.lp (by rw [hmk]; simp); rw [hmk] at this; exact this, hdone xs _ hS (hJp _ _ _ _ hR.lp hJ) ((World.putObj_heap_other (by omega)).trans hR.dfr)⟩
      · exact ⟨some c, _, by have := run_endLoop (P := P) hR.lp (by rw [hmk]; simp); rw [hmk] at this; exact this, hstop c pre _ hSp (hXp _ _ _ _ _ hR.lp hX) ((World.putObj_heap_other (by omega)).trans hR.dfr)⟩
theorem calls_any {P : Program} {a b f : Nat} {args : Array Value} {W : World} {R : Ending → World → Prop} (h : CallsIn Fence.wide a P f args W R) : CallsIn Fence.wide b P f args W R := callsIn_wide.2 (callsIn_wide.1 h)
/-- the loop's variable lies in a box of its own, made anew for each round -/
theorem law_box {α : Type} {P : Program} {g : Operand} {ps : Array Tmp} {assign body : Code} {Q : Exit → Act → World → Prop} {a : Act} {w : World} {n gf : Nat} {lb : Array Value}
    (hg : a.eval g = .func (.func gf) #[] lb) (eg : ∀ args w, (callFunc gf args).run P w = .ok (.enter gf args) w)
    (encs : α → Array Value) (hps : ∀ x, (encs x).size = ps.size)
    (J : List α → World → Prop) (Jx : Code → List α → World → Prop) (K : World → World → Prop) (hKt : ∀ {A B C : World}, K A B → K B C → K A C) (hKp : ∀ W r o, W.heap[w.heap.size + 1]? = some (.loop r) → K W (W.putObj (w.heap.size + 1) (.loop o)))
    (hJp : ∀ pre W r o, W.heap[w.heap.size + 1]? = some (.loop r) → J pre W → J pre (W.putObj (w.heap.size + 1) (.loop o)))
    (hXp : ∀ c pre W r o, W.heap[w.heap.size + 1]? = some (.loop r) → Jx c pre W → Jx c pre (W.putObj (w.heap.size + 1) (.loop o)))
    (T : Array Value → α → Nat → Act) (B : List α → α → Nat → World → Prop)
    (hBp : ∀ pre x i W r o, W.heap[w.heap.size + 1]? = some (.loop r) → B pre x i W → B pre x i (W.putObj (w.heap.size + 1) (.loop o)))
    (hassign : ∀ pre x W, w.heap.size + 1 < W.heap.size → J pre W → assign.wpIn (Fence.wide.inRound (w.heap.size + 1)) (n - 1 - 1) P (Exit.then (fun a₁ w₁ => (w₁.heap[w.heap.size + 1]? = W.heap[w.heap.size + 1]? ∧ w₁.heap[w.heap.size]? = W.heap[w.heap.size]?) ∧ (∃ i, a₁ = T a.tmps x i ∧ B pre x i w₁) ∧ K W w₁) (fun _ _ _ => False))
      { tmps := (ps.zip (encs x)).foldl (fun t (p, v) => t.setIfInBounds p v) a.tmps, defers := [] } W)
    (hbody : ∀ pre x i W, w.heap.size + 1 < W.heap.size → B pre x i W → body.wpIn (Fence.wide.inRound (w.heap.size + 1)) (n - 1 - 1) P (post (w.heap.size + 1) w.heap.size K J Jx (pre ++ [x]) W) (T a.tmps x i) W)
    (S Sp : List α → Prop)
    (hiter : ∀ (r0 : Loop) (rx : Code → Loop), Rdy (w.heap.size + 1) w.heap.size r0 ((w.alloc (.deferred (some []))).alloc (.loop r0)) →
      (∀ pre x W, J pre W → Rdy (w.heap.size + 1) w.heap.size r0 W → YieldAt Fence.wide (n - 1 - 1) P (w.heap.size + 1) (encs x) W fun e W' =>
        (e = .returned (.bool true) ∧ J (pre ++ [x]) W' ∧ Rdy (w.heap.size + 1) w.heap.size r0 W' ∧ K W W') ∨ (e = .returned (.bool false) ∧ ∃ c, Jx c (pre ++ [x]) W' ∧ Rdy (w.heap.size + 1) w.heap.size (rx c) W')) →
      CallsIn Fence.wide (n - 1) P gf (#[.func (.yield (w.heap.size + 1)) #[] #[]] ++ lb) ((w.alloc (.deferred (some []))).alloc (.loop r0)) fun e W' => (∃ v, e = .returned v) ∧
        ((∃ xs, S xs ∧ J xs W' ∧ Rdy (w.heap.size + 1) w.heap.size r0 W') ∨ (∃ pre c, Sp pre ∧ Jx c pre W' ∧ Rdy (w.heap.size + 1) w.heap.size (rx c) W')))
    (hdone : ∀ xs W, S xs → J xs W → W.heap[w.heap.size]? = some (.deferred (some [])) → Q .normal { a with defers := { target := .collected w.heap.size, args := #[] } :: a.defers } W)
    (hstop : ∀ c pre W, Sp pre → Jx c pre W → W.heap[w.heap.size]? = some (.deferred (some [])) → c.wpIn Fence.wide n P Q { a with defers := { target := .collected w.heap.size, args := #[] } :: a.defers } W) :
    (Code.rangeFunc g ps assign body).wpIn Fence.wide n P Q a w := by
  refine law hg eg encs hps J Jx K hKt hKp hJp hXp (fun pre x a₁ W => ∃ i, a₁ = T a.tmps x i ∧ B pre x i W) ?_ hassign ?_ S Sp hiter hdone hstop
  · rintro pre x a1 W r o hl ⟨i, e, hB⟩
    exact ⟨i, e, hBp pre x i W r o hl hB⟩
  · rintro pre x a1 W hl ⟨i, rfl, hB⟩
    exact hbody pre x i W hl hB
end Go.Proofs.YtdelobaiicoogaaGreatDoor.Rf

/- The walk through a tree: below a leaf. -/
namespace Go.Proofs.YtdelobaiicoogaaGreatDoor
open Go.ChangeShapes Go.WideShapes Go.ChangeAt Go.RowKit
attribute [local go_sem] Oper.semAt_some
variable {w w' : World} {p d : Nat} {h : Hp} {c : Nat} {F : List Nat}

/-- the items of a leaf from a key on, up to another -/
def leafR (its : List L6.It) (fr to' : ByteArray) : List L6.It := (its.drop (L6.findK (its.map (fun x => x.1)) fr).1).takeWhile (fun x => !(pastB x.1 to'))
theorem tw_stop {α : Type} {q : α → Bool} : ∀ {l : List α} {j : Nat} {y : α}, (∀ i z, i < j → l[i]? = some z → q z = true) → l[j]? = some y → q y = false → l.takeWhile q = l.take j
  | [], j, y, _, h, _ => by simp at h
  | a :: t, 0, y, _, h, hq => by
    simp at h
    subst h
    simp [List.takeWhile, hq]
  | a :: t, j + 1, y, hp, h, hq => by
    have h0 := hp 0 a (by omega) rfl
    have := tw_stop (l := t) (j := j) (y := y) (fun i z hi hz => hp (i + 1) z (by omega) (by simpa using hz)) (by simpa using h) hq
    simp [List.takeWhile, h0, this]
theorem tw_pre {α : Type} {q : α → Bool} : ∀ {l : List α} {j : Nat}, (∀ i z, i < j → l[i]? = some z → q z = true) → l.take j <+: l.takeWhile q
  | [], j, _ => by simp
  | a :: t, 0, _ => by simp
  | a :: t, j + 1, hp => by
    have h0 := hp 0 a (by omega) rfl
    have := tw_pre (l := t) (j := j) (fun i z hi hz => hp (i + 1) z (by omega) (by simpa using hz))
    simpa [List.takeWhile, h0] using this
theorem tw_all {α : Type} {q : α → Bool} : ∀ {l : List α}, (∀ i z, i < l.length → l[i]? = some z → q z = true) → l.takeWhile q = l
  | [], _ => rfl
  | a :: t, hp => by
    have h0 := hp 0 a (by simp) rfl
    have := tw_all (l := t) (fun i z hi hz => hp (i + 1) z (by simp; omega) (by simpa using hz))
    simp [List.takeWhile, h0, this]
set_option maxRecDepth 100000 in
set_option maxHeartbeats 4000000 in
theorem below_leaf (m L x b mb k : Nat) (hx : x < 4096) (f : Nat → Option Value) (fr to' : ByteArray) (its : List L6.It) (J : List L6.It → World → Prop) (X : List L6.It → World → Prop) (K : World → World → Prop) (Off : Nat → World → Prop) (W : World)
    (H : IsHeap W p d h c F) (hW : WalkAt W b p mb 0 k f) (hf : f x = none) (hF : mb ∉ F) (h0 : 0 < mb) (hk : k ≤ 100000)
    (hget : getR h (x : Int) = (⟨true, its, []⟩, 0)) (hlen : its.length ≤ 1100) (hne : its ≠ [])
    (hJ0 : ∀ W1, Moves [mb] W W1 → WalkAt W1 b p mb 0 (k + 1) (setF f x) → IsHeap W1 p d h c F → J [] W1)
    (hJb : ∀ pre W1 W2, J pre W1 → Below W1.heap.size W1 W2 → J pre W2)
    (hOff : ∀ W1 g o v, J [] W1 → W1.cell? ⟨g, o + 1, none⟩ = some v → Off g W1)
    (hOb : ∀ g W1 W2, Off g W1 → Below W1.heap.size W1 W2 → Off g W2)
    (hKO : ∀ W1 W2 g, K W1 W2 → Off g W1 → g < W1.heap.size → W2.heap[g]? = W1.heap[g]? ∧ Off g W2)
    (hY : ∀ pre y W1, J pre W1 → pre.length < 2000 → YieldAt Fence.wide m Tryz.prog L #[.agg #[.string y.1, .string y.2]] W1 fun e W2 =>
      (e = .returned (.bool true) ∧ J (pre ++ [y]) W2 ∧ K W1 W2) ∨ (e = .returned (.bool false) ∧ X (pre ++ [y]) W2)) :
    CallsIn Fence.wide (m + 1) Tryz.prog 88 #[.pointer (some ⟨b, 0, none⟩), .int .i64 (x : Int), .string fr, .string to', .func (.yield L) #[] #[]] W fun e W' =>
      (∃ v, e = .returned v) ∧ (J (leafR its fr to') W' ∨ ∃ pre, pre <+: leafR its fr to' ∧ X pre W') := by
  have HC := hide (come_new x hx b mb k 0 f W H hW hf hF h0 hk)
  rw [hget] at HC
  clear H hW hf hF h0 hk hget
  refine callsIn_of_wp Tryz.func88 rfl trivial ?_ rfl
  simp only [Tryz.ntmps88, List.size_toArray, List.length_cons, List.length_nil, Nat.reduceAdd, Nat.reduceSub, Array.replicate_succ, Array.replicate_zero, List.push_toArray, List.append_toArray, List.nil_append, List.cons_append]
  have hkn : (L6.findK (its.map (fun x => x.1)) fr).1 ≤ its.length := by have := (findK_le (its.map (fun x => x.1)) fr).1; rw [List.length_map] at this; exact this
  have HFN := hide (fun W1 ai ak ci ck (hh : L6.Has W1 ⟨true, its, []⟩ ai ak) => L6.find_any ⟨true, its, []⟩ ai ak ci ck fr W1 hh (by show its.length ≤ _; omega) (Nat.zero_le _))
  have hks : L6.keysN ⟨true, its, []⟩ = its.map (fun x => x.1) := rfl
  rw [hks] at HFN
  clear hks
  have HLR : Hid (leafR its fr to' = (its.drop (L6.findK (its.map (fun x => x.1)) fr).1).takeWhile (fun x => !(pastB x.1 to'))) := rfl
  generalize L6.findK (its.map (fun x => x.1)) fr = T at *
  obtain ⟨at', is'⟩ := T
  simp only at HFN HLR hkn
  gi_wp2_with (refine ⟨trivial, ?_⟩; gi_at_call 70; refine (callsIn_wide.2 (unhide HC)).mono ?_; rintro e w1 ⟨ai, ak, ci, ck, rfl, hh, hcp, hw1, hm1, hi1⟩; have HX := hide (And.intro hh (And.intro hcp (And.intro hw1 (And.intro hm1 hi1)))); clear hh hcp hw1 hm1 hi1)
  have hN := L6.Nblk.new w1 true ai ak its.length ci 0 ck
  have hb2 := below_alloc w1 (.cells #[.bool true, .slice ai its.length ci, .slice ak 0 ck] 38)
  obtain ⟨hh, hcp, hw1, hm1, hi1⟩ := unhide HX
  have HJ1 := hide (hJb _ _ _ (hJ0 w1 hm1 hw1 hi1) hb2)
  have HH2 := hide (hh.grow hb2)
  have HB2 := hide hb2
  have HH1 := hide hh
  have x0 := hN.cell0
  have x1 := hN.cell1
  have x2 := hN.cell2
  have HN := hide hN
  have hcap := hcp.1
  obtain ⟨g0, off0, rfl, hrow⟩ := hh.1.at (k := 0) (List.length_pos_iff.2 hne)
  have HROW := hide hrow
  clear hrow
  clear hh hcp hw1 hm1 hi1 hN hb2 HX HC
  obtain ⟨Q0, hQ0⟩ : ∃ y, y = w1.heap.size := ⟨_, rfl⟩
  gi_wp2_with fail
  rw [← hQ0] at x0 x1 x2 HN ⊢
  have HQE := hide hQ0
  clear hQ0
  generalize w1.alloc (.cells #[.bool true, .slice (some ⟨g0, off0, none⟩) its.length ci, .slice ak 0 ck] 38) = w2 at *
  have hR0 : L6.Row itV w2 (some ⟨g0, off0, none⟩) its := (unhide HH2).1
  have HR0 := hide hR0
  clear hR0
  have hoff : Off g0 w2 := by
    obtain ⟨b', o', e', hr'⟩ := (unhide HR0).at (k := 0) (List.length_pos_iff.2 hne)
    cases e'
    have h2 := hr' 0 _ (List.getElem?_eq_getElem (List.length_pos_iff.2 hne))
    exact hOff _ _ _ _ (unhide HJ1) h2.2
  have HOF := hide hoff
  clear hoff
  by_cases hca : ci = at'
  · have hae : at' = its.length := by omega
    subst hca
    have hL0 : leafR its fr to' = [] := by rw [unhide HLR, hae, List.drop_length]; rfl
    have HL0 := hide hL0
    clear hL0
    have hsub : its.length - ci = 0 := by omega
    gi_wp2_with (refine ⟨trivial, ?_⟩; gi_at_call 43; refine (callsIn_wide.2 (unhide HFN w2 (some ⟨g0, off0, none⟩) ak ci ck (unhide HH2))).mono ?_; rintro e w3 ⟨rfl, hb3⟩; have y0 := (hb3.cell (World.block_lt_of_cell? _ _ x0)).trans x0; have y1 := (hb3.cell (World.block_lt_of_cell? _ _ x1)).trans x1; have y2 := (hb3.cell (World.block_lt_of_cell? _ _ x2)).trans x2; have HB3 := hide hb3; clear hb3)
    gi_loopw [44] (fun t wr => t = .int .i64 0 ∧ J [] wr) (fun t _ => 0)
    case atStart => exact ⟨rfl, hJb _ _ _ (unhide HJ1) (unhide HB3)⟩
    case round =>
      obtain ⟨rfl, hJs⟩ := hrel
      have hlt : ¬ (0 : Int) < ((its.length - ci : Nat) : Int) := by omega
      gi_wp2
      go_ret
      rw [unhide HL0]
      exact ⟨⟨_, rfl⟩, .inl hJs⟩
  · have hca' : ¬ (ci : Int) = (at' : Int) := by omega
    gi_wp2_with (refine ⟨trivial, ?_⟩; gi_at_call 43; refine (callsIn_wide.2 (unhide HFN w2 (some ⟨g0, off0, none⟩) ak ci ck (unhide HH2))).mono ?_; rintro e w3 ⟨rfl, hb3⟩; have y0 := (hb3.cell (World.block_lt_of_cell? _ _ x0)).trans x0; have y1 := (hb3.cell (World.block_lt_of_cell? _ _ x1)).trans x1; have y2 := (hb3.cell (World.block_lt_of_cell? _ _ x2)).trans x2; have HB3 := hide hb3; clear hb3)
    gi_loopw [44] (fun t wr => ∃ j : Nat, j ≤ its.length - at' ∧ t = .int .i64 (j : Int) ∧ J ((its.drop at').take j) wr ∧ Off g0 wr ∧ (∀ i y, i < j → (its.drop at')[i]? = some y → pastB y.1 to' = false) ∧ L6.RowAt itV wr g0 off0 its) (fun t _ => its.length - at' - (intOf t).toNat)
    case atStart => exact ⟨0, Nat.zero_le _, rfl, hJb _ _ _ (unhide HJ1) (unhide HB3), hOb _ _ _ (unhide HOF) (unhide HB3), (fun i y hi => absurd hi (Nat.not_lt_zero _)), ((unhide HROW).grow (unhide HB2)).grow (unhide HB3)⟩
    case round =>
      obtain ⟨j, hj, rfl, hJs, hof, hnp, hra⟩ := hrel
      have HNP := hide hnp
      have HRA := hide hra
      have HJS := hide hJs
      have HOJ := hide hof
      clear hnp hra hJs hof y0 y1 y2 HJ1 HB3
      by_cases hlt : j < its.length - at'
      · have hlt' : (j : Int) < ((its.length - at' : Nat) : Int) := by omega
        obtain ⟨y, hy⟩ := L6.get_some (l := its) (k := at' + j) (by omega)
        have hyd : (its.drop at')[j]? = some y := by rw [List.getElem?_drop]; exact hy
        obtain ⟨c0, c1⟩ := unhide HRA _ _ hy
        have ea : off0 + (at' + j) * 2 = off0 + at' * 2 + j * 2 := by omega
        rw [ea] at c0 c1
        obtain ⟨ky, vy⟩ := y
        simp only at c0 c1
        have hb4 := below_alloc wr (.cells #[.string ky, .string vy] 58)
        have q0 : (wr.alloc (.cells #[.string ky, .string vy] 58)).cell? ⟨wr.heap.size, 0, none⟩ = some (.string ky) := by simp
        have q1 : (wr.alloc (.cells #[.string ky, .string vy] 58)).cell? ⟨wr.heap.size, 1, none⟩ = some (.string vy) := by simp
        have HJ4 := hide (hJb _ _ _ (unhide HJS) hb4)
        have HO4 := hide (hOb _ _ _ (unhide HOJ) hb4)
        have HY := hide hyd
        have HRA4 := hide ((unhide HRA).grow hb4)
        have HIP := hide (fun W1 => isPast_any ky to' W1)
        clear hb4 hy hyd ea
        cases hp : pastB ky to' with
        | true =>
          rw [hp] at HIP
          have HP := hide hp
          clear hp
          gi_wp2_with (refine ⟨trivial, ?_⟩; gi_at_call 72; refine (callsIn_wide.2 (unhide HIP _)).mono ?_; rintro e w5 ⟨rfl, hw⟩; rw [hw]; clear hw w5)
          refine ⟨fun _ h => (by cases h), ?_⟩
          gi_wp2
          go_ret
          refine ⟨⟨_, rfl⟩, .inl ?_⟩
          rw [unhide HLR, tw_stop (fun i z hi hz => by rw [unhide HNP i z hi hz]; rfl) (unhide HY) (by rw [unhide HP]; rfl)]
          exact unhide HJ4
        | false =>
          rw [hp] at HIP
          have HP := hide hp
          clear hp
          obtain ⟨fn, tmps, assign, body, hyy, hR⟩ := hY _ (ky, vy) _ (unhide HJ4) (by rw [List.length_take]; omega)
          dsimp only at hyy
          gi_wp2_with (refine ⟨trivial, ?_⟩; gi_at_call 72; refine (callsIn_wide.2 (unhide HIP _)).mono ?_; rintro e w5 ⟨rfl, hw⟩; rw [hw]; clear hw w5)
          refine hR.mono ?_
          rintro e W3 (⟨rfl, hJ3, hk3⟩ | ⟨rfl, hX3⟩)
          · have HJ3 := hide hJ3
            have HK3 := hide hk3
            clear hJ3 hk3
            gi_wp2
            go_roundw
            case rel =>
              have hg4 : g0 < (wr.alloc (.cells #[.string ky, .string vy] 58)).heap.size := by
                have h1 := unhide HRA4 0 _ (List.getElem?_eq_getElem (List.length_pos_iff.2 hne))
                exact World.block_lt_of_cell? _ _ h1.1
              have hko := hKO _ _ _ (unhide HK3) (unhide HO4) hg4
              refine ⟨j + 1, by omega, by go_num, ?_, hko.2, fun i z hi hz => ?_, fun i z hz => ?_⟩
              · have e1 : (its.drop at').take (j + 1) = (its.drop at').take j ++ [(ky, vy)] := by rw [List.take_add_one, unhide HY]; rfl
                rw [e1]
                exact unhide HJ3
              · by_cases e : i = j
                · subst e
                  rw [unhide HY] at hz
                  cases hz
                  exact unhide HP
                · exact unhide HNP i z (by omega) hz
              · have hb := hko.1
                exact ⟨(World.cell?_of_block hb).trans (unhide HRA4 i z hz).1, (World.cell?_of_block hb).trans (unhide HRA4 i z hz).2⟩
            case measure => simp [intOf]; omega
          · gi_wp2
            go_ret
            refine ⟨⟨_, rfl⟩, .inr ⟨_, ?_, hX3⟩⟩
            have e1 : (its.drop at').take j ++ [(ky, vy)] = (its.drop at').take (j + 1) := by rw [List.take_add_one, unhide HY]; rfl
            rw [e1, unhide HLR]
            exact tw_pre (fun i z hi hz => by
              by_cases e : i = j
              · subst e
                rw [unhide HY] at hz
                cases hz
                show (!(pastB ky to')) = true
                rw [unhide HP]
                rfl
              · show (!(pastB z.1 to')) = true
                rw [unhide HNP i z (by omega) hz]
                rfl)
      · obtain rfl : j = its.length - at' := by omega
        have hlt' : ¬ ((its.length - at' : Nat) : Int) < ((its.length - at' : Nat) : Int) := by omega
        gi_wp2
        go_ret
        refine ⟨⟨_, rfl⟩, .inl ?_⟩
        have hdl : (its.drop at').length = its.length - at' := List.length_drop ..
        rw [unhide HLR, tw_all (fun i z hi hz => by rw [unhide HNP i z (by omega) hz]; rfl)]
        have := unhide HJS
        rw [← hdl, List.take_length] at this
        exact this
end Go.Proofs.YtdelobaiicoogaaGreatDoor

/- The tree's calls of a nil heap, and of roots that nobody holds. -/
namespace Go.Proofs.YtdelobaiicoogaaGreatDoor
open Go.ChangeShapes Go.WideShapes Go.ChangeAt Go.RowKit
variable {w w' : World} {p d : Nat} {h : Hp} {c : Nat} {F : List Nat}

/-- is there a root among these that nobody holds? -/
def heldE (h : Hp) (ks : List Int) : Int := if ks.any (fun k => decide (k ≠ 0 ∧ h.cnt k = 0)) = true then 51 else 0
set_option maxHeartbeats 2000000 in
set_option maxRecDepth 20000 in
theorem theld_any (ks : List Int) (b cap : Nat) (w : World) (H : IsHeap w p d h c F) (hI : ∀ x ∈ ks, L5.I64 x) (hl : ks.length ≤ 1000) (hr : ∀ i x, ks[i]? = some x → w.cell? ⟨b, i, none⟩ = some (.int .i64 x)) :
    Calls Tryz.prog 39 #[.pointer (some ⟨p, 0, none⟩), .slice (some ⟨b, 0, none⟩) ks.length cap] w fun e w' => e = .returned (.int .i64 (heldE h ks)) ∧ w' = w := by
  have HH := hide H
  have HI := hide hI
  have HR := hide hr
  clear H hI hr
  go_enter Tryz.func39, Tryz.ntmps39
  go_wp2
  go_loopw [11] (fun t wr => ∃ k : Nat, k ≤ ks.length ∧ t = .int .i64 (k : Int) ∧ (∀ j (hj : j < ks.length), j < k → ¬ (ks[j] ≠ 0 ∧ h.cnt ks[j] = 0)) ∧ wr = w) (fun t _ => ks.length - (intOf t).toNat)
  case atStart => exact ⟨0, Nat.zero_le _, rfl, (fun j hj h => absurd h (Nat.not_lt_zero _)), rfl⟩
  case round =>
    obtain ⟨k, hk, rfl, hc0, hw⟩ := hrel
    subst hw
    have HC := hide hc0
    clear hc0
    by_cases hlt : k < ks.length
    · have hcell := unhide HR k _ (List.getElem?_eq_getElem hlt)
      have hlt' : (k : Int) < (ks.length : Int) := by omega
      have HX := hide (unhide HI _ (List.getElem_mem hlt))
      obtain ⟨X, hX⟩ : ∃ y, y = ks[k] := ⟨_, rfl⟩
      rw [← hX] at hcell HX
      have HXE := hide hX
      clear hX
      by_cases h0 : X = 0
      · subst h0
        go_wp2
        go_roundw
        case rel =>
          refine ⟨k + 1, by omega, by go_num, fun j hj hjk => ?_, trivial⟩
          by_cases e : j = k
          · subst e
            rw [← unhide HXE]
            exact fun hh => hh.1 rfl
          · exact unhide HC j hj (by omega)
        case measure => simp [intOf]; omega
      · have h0' : (X == 0) = false := beq_eq_false_iff_ne.2 h0
        have h0'' : (X != 0) = true := bne_iff_ne.2 h0
        by_cases hz : h.cnt X = 0
        · have hz' : ((h.cnt X : Nat) : Int) = 0 := by omega
          have HZ := hide (And.intro h0 hz)
          clear h0 hz
          go_wp2_with (go_at_call 69; refine (hcount_any X (unhide HX) _ (unhide HH)).mono ?_; rintro e w1 ⟨rfl, hw⟩; rw [hw]; clear hw w1; rw [hz'])
          go_ret
          refine ⟨?_, rfl⟩
          unfold heldE
          rw [if_pos (List.any_eq_true.2 ⟨ks[k], List.getElem_mem hlt, by rw [← unhide HXE]; simpa using unhide HZ⟩)]
          rfl
        · have hz' : (((h.cnt X : Nat) : Int) == 0) = false := beq_eq_false_iff_ne.2 (by omega)
          have HZ := hide hz
          obtain ⟨C, hC⟩ : ∃ y, y = ((h.cnt X : Nat) : Int) := ⟨_, rfl⟩
          rw [← hC] at hz'
          have HCE := hide hC
          clear h0 hz hC
          go_wp2_with (go_at_call 69; refine (hcount_any X (unhide HX) _ (unhide HH)).mono ?_; rintro e w1 ⟨rfl, hw⟩; rw [hw]; clear hw w1; rw [← unhide HCE])
          go_roundw
          case rel =>
            refine ⟨k + 1, by omega, by go_num, fun j hj hjk => ?_, trivial⟩
            by_cases e : j = k
            · subst e
              rw [← unhide HXE]
              exact fun hh => unhide HZ hh.2
            · exact unhide HC j hj (by omega)
          case measure => simp [intOf]; omega
    · obtain rfl : k = ks.length := by omega
      have hlt' : ¬ (ks.length : Int) < (ks.length : Int) := by omega
      clear hlt
      go_wp2
      go_ret
      refine ⟨?_, rfl⟩
      unfold heldE
      rw [if_neg (by
        intro hh
        obtain ⟨x, hx, hp⟩ := List.any_eq_true.1 hh
        obtain ⟨j, hj, rfl⟩ := List.getElem_of_mem hx
        exact unhide HC j hj hj (by simpa using hp))]
      rfl
/-- one root -/
theorem theld_one (x : Int) (b : Nat) (w : World) (H : IsHeap w p d h c F) (hI : L5.I64 x) (hr : w.cell? ⟨b, 0, none⟩ = some (.int .i64 x)) :
    Calls Tryz.prog 39 #[.pointer (some ⟨p, 0, none⟩), .slice (some ⟨b, 0, none⟩) 1 1] w fun e w' => e = .returned (.int .i64 (heldE h [x])) ∧ w' = w :=
  theld_any [x] b 1 w H (fun y hy => by simp at hy; rw [hy]; exact hI) (by simp) (fun i y hy => by
    match i, hy with
    | 0, hy => cases hy; exact hr)
/-! a nil heap -/
/-! a root that nobody holds -/
theorem heldE_one {x : Int} (h0 : x ≠ 0) (hz : h.cnt x = 0) : heldE h [x] = 51 := by unfold heldE; rw [if_pos (by simp [h0, hz])]
theorem heldE_zero : heldE h [0] = 0 := by unfold heldE; rw [if_neg (by simp)]
theorem heldE_is {x : Int} (hz : h.cnt x ≠ 0) : heldE h [x] = 0 := by unfold heldE; rw [if_neg (by simp [hz])]
set_option maxHeartbeats 1000000 in
theorem tcheck_free (x : Int) (w : World) (H : IsHeap w p d h c F) (hI : L5.I64 x) (h0 : x ≠ 0) (hz : h.cnt x = 0) : Calls Tryz.prog 12 #[.pointer (some ⟨p, 0, none⟩), .int .i64 x] w fun e w' => e = .returned (.int .i64 51) ∧ Below w.heap.size w w' := by
  have HH := hide (H.grow (below_alloc w (.cells #[.int .i64 x] 3)))
  have HI := hide hI
  have HE := hide (heldE_one h0 hz)
  clear H hI h0 hz
  go_enter Tryz.func12, Tryz.ntmps12
  go_wp2_with (go_at_call 39; refine (theld_one x _ _ (unhide HH) (unhide HI) (by simp)).mono ?_; rintro e w1 ⟨rfl, hw⟩; rw [hw]; clear hw w1; rw [unhide HE])
  go_ret
  exact ⟨rfl, below_alloc _ _⟩
set_option maxHeartbeats 1000000 in
theorem tcheck_zero (w : World) (H : IsHeap w p d h c F) : Calls Tryz.prog 12 #[.pointer (some ⟨p, 0, none⟩), .int .i64 0] w fun e w' => e = .returned (.int .i64 0) ∧ Below w.heap.size w w' := by
  have HH := hide (H.grow (below_alloc w (.cells #[.int .i64 0] 3)))
  have HE := hide (heldE_zero (h := h))
  clear H
  go_enter Tryz.func12, Tryz.ntmps12
  go_wp2_with (go_at_call 39; refine (theld_one 0 _ _ (unhide HH) ⟨by decide, by decide⟩ (by simp)).mono ?_; rintro e w1 ⟨rfl, hw⟩; rw [hw]; clear hw w1; rw [unhide HE])
  go_ret
  exact ⟨rfl, below_alloc _ _⟩

set_option maxHeartbeats 1000000 in
set_option maxRecDepth 20000 in
/-- a heap on a new disk -/
theorem tbegun_ok (n : Nat) (w : World) (hT : L4.Tab w) (h8 : 8 ≤ n) (hn : n ≤ 4096) :
    Calls Tryz.prog 6 #[.int .i64 (n : Int)] w fun e w' => ∃ p d F, e = .returned (.tuple #[.pointer (some ⟨p, 0, none⟩), .pointer (some ⟨d, 0, none⟩)]) ∧ IsHeap w' p d (newH (L3.newM n) 1) 0 F ∧ Below w.heap.size w w' ∧ ∀ x ∈ F, w.heap.size ≤ x := by
  have HT := hide hT
  have H8 := hide h8
  have HN := hide hn
  have hsz : 0 < w.heap.size := World.block_lt_of_cell? w ⟨0, 0, none⟩ (hT 0 (by omega))
  have HSZ := hide hsz
  clear hT h8 hn hsz
  go_enter Tryz.func6, Tryz.ntmps6
  go_wp2_with (first
    | (go_at_call 19; refine (L3.new_any (n : Int) _ (by have := unhide H8; omega) (by have := unhide HN; omega)).mono ?_; rintro e w1 ⟨d, fd, rfl, hd, hb1, hf1⟩; have HD := hide (And.intro hd hf1); have HB1 := hide hb1; clear hd hb1 hf1)
    | (go_at_call 20; refine (hnew_ok 1 _ (unhide HD).1 (tab_keep (unhide HT) (L5.Moves.of_below [] (unhide HB1)) List.not_mem_nil) (fun x hx => by have := (unhide HD).2 x hx; have := unhide HSZ; omega) (by decide) (by decide) (by rw [show ((n : Int)).toNat = n from rfl, newM_len]; have := unhide H8; omega)).mono ?_; rintro e w3 ⟨p, F, rfl, hp, hb3, hf3⟩; have HP := hide hp; have HB3 := hide (below_then (unhide HB1) hb3); have HF3 := hide hf3; clear hp hb3 hf3))
  go_ret2
  refine ⟨p, d, F, rfl, unhide HP, unhide HB3, fun x hx => ?_⟩
  rcases unhide HF3 x hx with h1 | h1
  · exact (unhide HD).2 x h1
  · exact Nat.le_trans (unhide HB1).size h1
end Go.Proofs.YtdelobaiicoogaaGreatDoor
