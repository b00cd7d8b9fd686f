/- Texts that the proof needs, one behind the other. -/
import Derived.Test.YtlmgmdnmghgkbaaGreatDoorMad
import Derived.Laws.ResultCell
import Derived.Laws.OwnMore
import Derived.Test.YtlmgmdnmghgkbaaGreatDoorMaa
import Derived.Test.YtlmgmdnmghgkbaaGreatDoorMab
import Derived.Test.YtlmgmdnmghgkbaaGreatDoorRows
import Derived.WalkKit
import Derived.ProofKit
import Derived.OpenShut
import Derived.WalkLawsBesides
import Derived.WalkSpells
import Derived.Outline
import Derived.Deep.AppendLies
import Derived.Laws.BytesArg
import Derived.BigFrame
import Derived.Maps.OwnSet
import Derived.Maps.Ext
import Derived.Shelf.SlMaps.Clone
import Derived.Shelf.SlMaps.Copy
import Derived.Laws.Externs
import Derived.Maps.RangeWalk
import Derived.Laws.IdiomRangeMap
import Derived.Shelf.Pu.Clone
import Derived.Shelf.Strings.Repeat
/- One entry is read, as the program reads it. -/
namespace Go.Proofs.YtlmgmdnmghgkbaaGreatDoor.L6
open Go.ChangeShapes Go.WideShapes Go.ChangeAt Go.RowKit

theorem results_cell1 {fn : Func} {p : Tmp} {ty : TypeId} (h : fn.results = #[.cell p ty]) (tmps : Array Value) (P : Program) (w : World) :
    (results fn tmps).run P w = ((asAddr (tmps.getD p undef)).run P w).andThen fun a w₁ => (loadVar ty a).run P w₁ := by
  simp only [results, h]
  simp [Sem.run_bind, Result.andThen]

/-- THE DOCUMENT's: an item, a kid at the front: what is left, the error -/
def itemR (L : ByteArray) (e : Nat) : It × ByteArray × Nat :=
  (((textR L e 272).1, (textR (textR L e 272).2.1 (textR L e 272).2.2 160).1), (textR (textR L e 272).2.1 (textR L e 272).2.2 160).2.1, (textR (textR L e 272).2.1 (textR L e 272).2.2 160).2.2)
def kidR (L : ByteArray) (e : Nat) : Kd × ByteArray × Nat :=
  (((textR L e 272).1, wrap64 ((shortR (textR L e 272).2.1 (textR L e 272).2.2).1 : Int)), (shortR (textR L e 272).2.1 (textR L e 272).2.2).2.1, (shortR (textR L e 272).2.1 (textR L e 272).2.2).2.2)

theorem size_back (L : ByteArray) (k : Nat) : (L.extract k L.size).size ≤ L.size := by rw [ByteArray.size_extract]; omega
theorem byteR_le (L : ByteArray) (e : Nat) : (byteR L e).2.1.size ≤ L.size := by
  unfold byteR
  split
  · exact Nat.le_refl _
  · split
    · exact Nat.le_refl _
    · exact size_back _ _
theorem shortR_le (L : ByteArray) (e : Nat) : (shortR L e).2.1.size ≤ L.size := by
  unfold shortR
  split
  · exact Nat.le_refl _
  · exact size_back _ _
theorem textR_le (L : ByteArray) (e : Nat) (most : Int) : (textR L e most).2.1.size ≤ L.size := by
  unfold textR
  split
  · exact Nat.le_refl _
  · exact size_back _ _

/-- a new block of one's own beside the reader -/
theorem Told.pair {w w' : World} {r e : Nat} {L : ByteArray} {a b : Value} {t : TypeId} (h : Told (w.alloc (.cells #[a, b] t)) w' r L e) (hr : r < w.heap.size) : w'.heap[w.heap.size]? = some (.cells #[a, b] t (0, 0)) :=
  (h.1.block w.heap.size (by simp) (by simp; omega)).trans (heap_alloc_new w _)
theorem Told.pair' {w1 w' : World} {p r e : Nat} {L : ByteArray} {a b : Value} {t : TypeId} (h : Told w1 w' r L e) (hp : p ≠ r) (hh : w1.heap[p]? = some (.cells #[a, b] t (0, 0))) : w'.heap[p]? = some (.cells #[a, b] t (0, 0)) :=
  (h.1.block p (lt_of_block hh) (fun e => hp (Option.some.inj e))).trans hh
theorem Told.then {w w1 w2 : World} {r e e2 : Nat} {L L2 : ByteArray} (h : Told w w1 r L e) (k : Told w1 w2 r L2 e2) : Told w w2 r L2 e2 := ⟨grown_trans h.1 k.1, k.2⟩
theorem Told.store {w w' : World} {r e p : Nat} {L : ByteArray} (h : Told w w' r L e) (hp : w.heap.size ≤ p) (hr : r < w.heap.size) (j : Nat) (u : Value) : Told w (w'.setCell ⟨p, j, none⟩ u) r L e := by
  refine ⟨⟨h.1.os, h.1.tape, h.1.output, ?_, fun k hk hne => ?_⟩, ?_⟩
  · have := h.1.size
    simpa [World.setCell] using this
  · rw [Below.heap_setCell _ _ _ _ (show k ≠ p by omega)]
    exact h.1.block k hk hne
  · exact (Below.heap_setCell _ ⟨p, j, none⟩ _ _ (show r ≠ p by omega)).trans h.2

set_option maxRecDepth 10000 in
set_option maxHeartbeats 1000000 in
theorem readItem_any (r e : Nat) (L : ByteArray) (w : World) (hr : Rd w r L e) (hL : L.size ≤ 1000000) :
    Calls Tryz.prog 217 #[.pointer (some ⟨r, 0, none⟩)] w fun x w' => x = .returned (.agg #[.string (itemR L e).1.1, .string (itemR L e).1.2]) ∧ Told w w' r (itemR L e).2.1 (itemR L e).2.2 := by
  have hrl := hr.lt
  have hb := hr.alloc (.cells #[.string ⟨#[]⟩, .string ⟨#[]⟩] 126)
  have H1 := hide (rtext_any r e L 272 _ hb hL (by omega))
  have hle := textR_le L e 272
  have H2 := hide (fun W (hW : Rd W r (textR L e 272).2.1 (textR L e 272).2.2) => rtext_any r _ _ 160 W hW (by omega) (by omega))
  have e1 : (itemR L e).1.1 = (textR L e 272).1 := rfl
  have e2 : (itemR L e).1.2 = (textR (textR L e 272).2.1 (textR L e 272).2.2 160).1 := rfl
  have e3 : (itemR L e).2 = ((textR (textR L e 272).2.1 (textR L e 272).2.2 160).2.1, (textR (textR L e 272).2.1 (textR L e 272).2.2 160).2.2) := rfl
  rw [e1, e2, e3]
  have HR := hide hr
  clear e1 e2 e3 hb hr hle
  generalize textR L e 272 = T at *
  generalize textR T.2.1 T.2.2 160 = U at *
  go_enter Tryz.func217, Tryz.ntmps217
  go_wp2_with fail
  refine (unhide H1).mono ?_
  rintro x w1 ⟨rfl, ht⟩
  have HP := hide (ht.pair hrl)
  have HT := hide ht.boxed
  have HD := hide ht.2
  clear ht
  obtain ⟨p, hp⟩ : ∃ y, y = w.heap.size := ⟨_, rfl⟩
  rw [← hp] at HP ⊢
  have HPE := hide (And.intro (Nat.le_of_eq hp.symm) (show p ≠ r by omega))
  clear hp
  go_wp2_with fail
  refine (unhide H2 _ (unhide HD)).mono ?_
  rintro x w2 ⟨rfl, ht⟩
  have hp2 := ht.pair' (unhide HPE).2 (unhide HP)
  have HT2 := hide ((unhide HT).then ht)
  clear ht
  have c0 := two_cell0 hp2
  have c1 := two_cell1 hp2
  have f0 := two_free hp2 0
  have f1 := two_free hp2 1
  clear hp2
  go_wp2
  refine bodyPost_ret (v := .agg #[.string T.1, .string U.1]) ?_ rfl ⟨rfl, ?_⟩
  · rw [results_cell1 rfl]
    go_simp
  · exact ((unhide HT2).store (unhide HPE).1 hrl 0 _).store (unhide HPE).1 hrl 1 _

set_option maxRecDepth 10000 in
set_option maxHeartbeats 1000000 in
theorem readKid_any (r e : Nat) (L : ByteArray) (w : World) (hr : Rd w r L e) (hL : L.size ≤ 1000000) :
    Calls Tryz.prog 219 #[.pointer (some ⟨r, 0, none⟩)] w fun x w' => x = .returned (.agg #[.string (kidR L e).1.1, .int .i64 (kidR L e).1.2]) ∧ Told w w' r (kidR L e).2.1 (kidR L e).2.2 := by
  have hrl := hr.lt
  have hb := hr.alloc (.cells #[.string ⟨#[]⟩, .int .i64 0] 153)
  have H1 := hide (rtext_any r e L 272 _ hb hL (by omega))
  have hle := textR_le L e 272
  have H2 := hide (fun W (hW : Rd W r (textR L e 272).2.1 (textR L e 272).2.2) => rshort_any r _ _ W hW (by omega))
  have e1 : (kidR L e).1.1 = (textR L e 272).1 := rfl
  have e2 : (kidR L e).1.2 = wrap64 ((shortR (textR L e 272).2.1 (textR L e 272).2.2).1 : Int) := rfl
  have e3 : (kidR L e).2 = ((shortR (textR L e 272).2.1 (textR L e 272).2.2).2.1, (shortR (textR L e 272).2.1 (textR L e 272).2.2).2.2) := rfl
  rw [e1, e2, e3]
  have HR := hide hr
  clear e1 e2 e3 hb hr hle
  generalize textR L e 272 = T at *
  generalize shortR T.2.1 T.2.2 = U at *
  go_enter Tryz.func219, Tryz.ntmps219
  go_wp2_with fail
  refine (unhide H1).mono ?_
  rintro x w1 ⟨rfl, ht⟩
  have HP := hide (ht.pair hrl)
  have HT := hide ht.boxed
  have HD := hide ht.2
  clear ht
  obtain ⟨p, hp⟩ : ∃ y, y = w.heap.size := ⟨_, rfl⟩
  rw [← hp] at HP ⊢
  have HPE := hide (And.intro (Nat.le_of_eq hp.symm) (show p ≠ r by omega))
  clear hp
  go_wp2_with fail
  refine (unhide H2 _ (unhide HD)).mono ?_
  rintro x w2 ⟨rfl, ht⟩
  have hp2 := ht.pair' (unhide HPE).2 (unhide HP)
  have HT2 := hide ((unhide HT).then ht)
  clear ht
  have c0 := two_cell0 hp2
  have c1 := two_cell1 hp2
  have f0 := two_free hp2 0
  have f1 := two_free hp2 1
  clear hp2
  go_wp2
  refine bodyPost_ret (v := .agg #[.string T.1, .int .i64 (wrap64 (U.1 : Int))]) ?_ rfl ⟨rfl, ?_⟩
  · rw [results_cell1 rfl]
    go_simp
  · exact ((unhide HT2).store (unhide HPE).1 hrl 0 _).store (unhide HPE).1 hrl 1 _
end Go.Proofs.YtlmgmdnmghgkbaaGreatDoor.L6

/- Entries in a row of one's own. -/
namespace Go.Proofs.YtlmgmdnmghgkbaaGreatDoor.L6
open Go.ChangeShapes Go.WideShapes Go.ChangeAt Go.RowKit

def pairs {β : Type} (sv : β → Value) (l : List (ByteArray × β)) : List Value := l.flatMap fun x => [Value.string x.1, sv x.2]
theorem pairs_length {β : Type} (sv : β → Value) (l : List (ByteArray × β)) : (pairs sv l).length = l.length * 2 := by
  induction l with
  | nil => rfl
  | cons x t ih =>
    have e : pairs sv (x :: t) = [Value.string x.1, sv x.2] ++ pairs sv t := rfl
    rw [e, List.length_append, ih, List.length_cons]
    simp
    omega
theorem pairs_append {β : Type} (sv : β → Value) (l r : List (ByteArray × β)) : pairs sv (l ++ r) = pairs sv l ++ pairs sv r := List.flatMap_append
theorem pairs_get {β : Type} (sv : β → Value) (l : List (ByteArray × β)) (i : Nat) (x : ByteArray × β) (h : l[i]? = some x) : (pairs sv l)[i * 2]? = some (.string x.1) ∧ (pairs sv l)[i * 2 + 1]? = some (sv x.2) := by
  induction l generalizing i with
  | nil => simp at h
  | cons y t ih =>
    have e : pairs sv (y :: t) = Value.string y.1 :: sv y.2 :: pairs sv t := rfl
    cases i with
    | zero =>
      simp at h
      subst h
      rw [e]
      exact ⟨rfl, rfl⟩
    | succ i =>
      have := ih i (by simpa using h)
      rw [e]
      have e1 : (i + 1) * 2 = i * 2 + 1 + 1 := by omega
      rw [e1]
      simpa using this
/-- entries of type T in a row of one's own -/
def OwnE {β : Type} (sv : β → Value) (T : TypeId) (B : Nat) (w : World) (v : Value) (l : List (ByteArray × β)) : Prop := w.ownsRow B T 2 v l.length (pairs sv l)
theorem OwnE.nil {β : Type} (sv : β → Value) (T : TypeId) (B : Nat) (w : World) : OwnE sv T B w (.slice none 0 0) [] := World.ownsRow_nil _ _ _ _
theorem OwnE.row {β : Type} {sv : β → Value} {T : TypeId} {B : Nat} {w : World} {a : Option Addr} {n cap : Nat} {l : List (ByteArray × β)} (h : OwnE sv T B w (.slice a n cap) l) : Row sv w a l := by
  have h' := h
  rcases h.2 with ⟨_, hn⟩ | ⟨g, cap', cur, e, _⟩
  · exact .inl (List.length_eq_zero_iff.1 hn)
  · injection e with e1 e2 e3
    subst e1 e2 e3
    refine .inr ⟨g, 0, rfl, fun i x hx => ?_⟩
    have hi : i < l.length := (List.getElem?_eq_some_iff.1 hx).1
    obtain ⟨p0, p1⟩ := pairs_get sv l i x hx
    rw [Nat.zero_add]
    exact ⟨(World.ownsRow.cellAt h' (i * 2) (by omega)).trans p0, (World.ownsRow.cellAt h' (i * 2 + 1) (by omega)).trans p1⟩
theorem OwnE.form {β : Type} {sv : β → Value} {T : TypeId} {B : Nat} {w : World} {v : Value} {l : List (ByteArray × β)} (h : OwnE sv T B w v l) : ∃ a cap, v = .slice a l.length cap := ownsRow_form h
theorem OwnE.below {β : Type} {sv : β → Value} {T : TypeId} {B : Nat} {w w' : World} {v : Value} {l : List (ByteArray × β)} (h : OwnE sv T B w v l) (hb : Below w.heap.size w w') : OwnE sv T B w' v l :=
  ownsRow_same h (fun g hg => hb.block g (World.ownsRow.lt h g hg).2)
theorem OwnE.base {β : Type} {sv : β → Value} {T : TypeId} {B B' : Nat} {w : World} {v : Value} {l : List (ByteArray × β)} (h : OwnE sv T B w v l) (hB : B' ≤ B) : OwnE sv T B' w v l := ownsRow_base h hB
theorem OwnE.snoc {β : Type} {sv : β → Value} {T : TypeId} {B : Nat} {w : World} {v : Value} {l : List (ByteArray × β)} {x : ByteArray × β} (h : w.ownsRow B T 2 v (l.length + 1) (pairs sv l ++ [.string x.1, sv x.2])) : OwnE sv T B w v (l ++ [x]) := by
  unfold OwnE
  rw [List.length_append, pairs_append]
  exact h
/-- a row isn't the block of another kind -/
theorem OwnE.other {β : Type} {sv : β → Value} {T : TypeId} {B : Nat} {w : World} {v : Value} {l : List (ByteArray × β)} (h : OwnE sv T B w v l) {r : Nat} {cs : Array Value} {t : TypeId} (hr : w.heap[r]? = some (.cells cs t (0, 0))) (ht : T ≠ t) : v.ownBlock ≠ some r := by
  intro e
  obtain ⟨cur, h0⟩ := ownsRow_kind h e
  rw [hr] at h0
  simp at h0
  exact ht h0.2.symm
theorem OwnE.told {β : Type} {sv : β → Value} {T : TypeId} (hT : T ≠ 332) {B : Nat} {w w' : World} {v : Value} {l : List (ByteArray × β)} {r e e' : Nat} {L L' : ByteArray} (h : OwnE sv T B w v l) (hr : Rd w r L e) (ht : Told w w' r L' e') : OwnE sv T B w' v l :=
  World.ownsRow.kept h ht.1 (.inr (h.other hr hT))
/-- behind an append to a row of one's own the reader is as it was -/
theorem Told.app {β : Type} {sv : β → Value} {T : TypeId} (hT : T ≠ 332) {B : Nat} {w w1 w2 : World} {v : Value} {l : List (ByteArray × β)} {r e : Nat} {L : ByteArray} (h : Told w w1 r L e) (ho : OwnE sv T B w1 v l) (hB : w.heap.size ≤ B) (hg : w1.grownBy w2 v.ownBlock) : Told w w2 r L e := by
  have hn := ho.other h.2 hT
  have hr := h.2.lt
  refine ⟨⟨hg.os.trans h.1.os, hg.tape.trans h.1.tape, hg.output.trans h.1.output, Nat.le_trans h.1.size hg.size, fun k hk hne => ?_⟩, (hg.block r hr hn.symm).trans h.2⟩
  refine (hg.block k (Nat.lt_of_lt_of_le hk h.1.size) (fun e => ?_)).trans (h.1.block k hk hne)
  have := (World.ownsRow.lt ho k e.symm).1
  omega
/-- the reader as the document has it -/
theorem pair_one {x : ByteArray} {u : Value} (hu : u.oneCell' = true) : ∀ y ∈ [Value.string x, u], y.oneCell' = true := by
  intro y hy
  simp at hy
  rcases hy with rfl | rfl
  · rfl
  · exact hu

/-- so many entries, one behind the other, or till the error -/
def listR {α : Type} (f : ByteArray → Nat → α × ByteArray × Nat) : Nat → ByteArray → Nat → List α × ByteArray × Nat
  | 0, L, e => ([], L, e)
  | c + 1, L, e => if e ≠ 0 then ([], L, e) else ((f L e).1 :: (listR f c (f L e).2.1 (f L e).2.2).1, (listR f c (f L e).2.1 (f L e).2.2).2)
theorem listR_err {α : Type} (f : ByteArray → Nat → α × ByteArray × Nat) (c : Nat) (L : ByteArray) (e : Nat) (h : e ≠ 0) : listR f c L e = ([], L, e) := by
  cases c with
  | zero => rfl
  | succ c => rw [listR, if_pos h]
theorem listR_next {α : Type} (f : ByteArray → Nat → α × ByteArray × Nat) (c : Nat) (L : ByteArray) : listR f (c + 1) L 0 = ((f L 0).1 :: (listR f c (f L 0).2.1 (f L 0).2.2).1, (listR f c (f L 0).2.1 (f L 0).2.2).2) := by
  rw [listR, if_neg (by simp)]
/-- where the loop stands: what was read, how many are still to come, what is left -/
structure Lat {α : Type} (f : ByteArray → Nat → α × ByteArray × Nat) (C : Nat) (L0 : ByteArray) (e0 : Nat) (pre : List α) (c : Nat) (L : ByteArray) (e : Nat) : Prop where
  same : listR f C L0 e0 = (pre ++ (listR f c L e).1, (listR f c L e).2)
  less : L.size ≤ L0.size
  many : e = 0 → pre.length + L.size ≤ L0.size
theorem Lat.start {α : Type} (f : ByteArray → Nat → α × ByteArray × Nat) (C : Nat) (L0 : ByteArray) (e0 : Nat) : Lat f C L0 e0 [] C L0 e0 := ⟨rfl, Nat.le_refl _, fun _ => by simp⟩
theorem Lat.next {α : Type} {f : ByteArray → Nat → α × ByteArray × Nat} (hf : ∀ L e, (f L e).2.1.size ≤ L.size) (hf0 : ∀ L, (f L 0).2.2 = 0 → (f L 0).2.1.size + 1 ≤ L.size) {C : Nat} {L0 : ByteArray} {e0 : Nat} {pre : List α} {c : Nat} {L : ByteArray} (h : Lat f C L0 e0 pre (c + 1) L 0) :
    Lat f C L0 e0 (pre ++ [(f L 0).1]) c (f L 0).2.1 (f L 0).2.2 := by
  refine ⟨?_, Nat.le_trans (hf L 0) h.less, fun he => ?_⟩
  · rw [h.same, listR_next]
    simp
  · have h1 := h.many rfl
    have h2 := hf0 L he
    rw [List.length_append]
    show pre.length + 1 + _ ≤ _
    omega
theorem Lat.done {α : Type} {f : ByteArray → Nat → α × ByteArray × Nat} {C : Nat} {L0 : ByteArray} {e0 : Nat} {pre : List α} {L : ByteArray} {e : Nat} (h : Lat f C L0 e0 pre 0 L e) : listR f C L0 e0 = (pre, L, e) := by
  rw [h.same]
  simp [listR]
theorem Lat.err {α : Type} {f : ByteArray → Nat → α × ByteArray × Nat} {C : Nat} {L0 : ByteArray} {e0 : Nat} {pre : List α} {c : Nat} {L : ByteArray} {e : Nat} (h : Lat f C L0 e0 pre c L e) (he : e ≠ 0) : listR f C L0 e0 = (pre, L, e) := by
  rw [h.same, listR_err f c L e he]
  simp

theorem textR_lt (L : ByteArray) (most : Int) (h : (textR L 0 most).2.2 = 0) : (textR L 0 most).2.1.size + 1 ≤ L.size := by
  unfold textR at *
  rw [if_neg (by simp)] at h ⊢
  rcases scan_cases L with ⟨n, k, hsc, _, h0, _, hks, _, _⟩ | ⟨er, hsc, h0, _, _⟩
  · by_cases h1 : most < 0 ∨ most < (n : Int)
    · rw [textOf_long hsc h1] at h; simp at h
    · by_cases h2 : L.size - k < n
      · rw [textOf_short hsc h1 h2] at h; simp at h
      · rw [textOf_ok hsc h1 h2]
        show (L.extract (k + n) L.size).size + 1 ≤ _
        rw [ByteArray.size_extract]
        omega
  · rw [textOf_bad most hsc h0] at h
    exact absurd h h0
theorem textR_keeps (L : ByteArray) (e : Nat) (most : Int) (h : e ≠ 0) : textR L e most = (⟨#[]⟩, L, e) := by unfold textR; rw [if_pos h]
theorem shortR_keeps (L : ByteArray) (e : Nat) (h : e ≠ 0) : shortR L e = (0, L, e) := by unfold shortR; rw [if_pos h]
theorem itemR_le (L : ByteArray) (e : Nat) : (itemR L e).2.1.size ≤ L.size := Nat.le_trans (textR_le _ _ _) (textR_le _ _ _)
theorem kidR_le (L : ByteArray) (e : Nat) : (kidR L e).2.1.size ≤ L.size := Nat.le_trans (shortR_le _ _) (textR_le _ _ _)
theorem itemR_ok {L : ByteArray} (h : (itemR L 0).2.2 = 0) : (textR L 0 272).2.2 = 0 := by
  by_cases h0 : (textR L 0 272).2.2 = 0
  · exact h0
  · have e : (itemR L 0).2.2 = (textR (textR L 0 272).2.1 (textR L 0 272).2.2 160).2.2 := rfl
    rw [e, textR_keeps _ _ _ h0] at h
    exact absurd h h0
theorem kidR_ok {L : ByteArray} (h : (kidR L 0).2.2 = 0) : (textR L 0 272).2.2 = 0 := by
  by_cases h0 : (textR L 0 272).2.2 = 0
  · exact h0
  · have e : (kidR L 0).2.2 = (shortR (textR L 0 272).2.1 (textR L 0 272).2.2).2.2 := rfl
    rw [e, shortR_keeps _ _ h0] at h
    exact absurd h h0
theorem itemR_lt (L : ByteArray) (h : (itemR L 0).2.2 = 0) : (itemR L 0).2.1.size + 1 ≤ L.size := by
  have h0 := itemR_ok h
  have h1 := textR_lt L 272 h0
  have h2 : (itemR L 0).2.1.size ≤ (textR L 0 272).2.1.size := textR_le _ _ _
  omega
theorem kidR_lt (L : ByteArray) (h : (kidR L 0).2.2 = 0) : (kidR L 0).2.1.size + 1 ≤ L.size := by
  have h0 := kidR_ok h
  have h1 := textR_lt L 272 h0
  have h2 : (kidR L 0).2.1.size ≤ (textR L 0 272).2.1.size := shortR_le _ _
  omega
end Go.Proofs.YtlmgmdnmghgkbaaGreatDoor.L6

/- Entries are read, as the program reads them. -/
namespace Go.Proofs.YtlmgmdnmghgkbaaGreatDoor.L6
open Go.ChangeShapes Go.WideShapes Go.ChangeAt Go.RowKit

/-- how many, and the entries -/
def countR {α : Type} (f : ByteArray → Nat → α × ByteArray × Nat) (L : ByteArray) (e : Nat) : List α × ByteArray × Nat := listR f (shortR L e).1 (shortR L e).2.1 (shortR L e).2.2
theorem shortR_lt (L : ByteArray) (e : Nat) : (shortR L e).1 < 18446744073709551616 := by
  unfold shortR
  split
  · show (0 : Nat) < _
    decide
  · rcases scan_cases L with ⟨n, k, hsc, hn, _⟩ | ⟨er, hsc, _⟩
    · rw [hsc]; exact hn
    · rw [hsc]; show (0 : Nat) < _; decide

set_option maxRecDepth 10000 in
set_option maxHeartbeats 4000000 in
theorem entriesI_any (r e0 : Nat) (L0 : ByteArray) (w : World) (hr : Rd w r L0 e0) (hL : L0.size ≤ 1000000) :
    Calls Tryz.prog 216 #[.pointer (some ⟨r, 0, none⟩), .func (.func 217) #[] #[]] w fun x w' => ∃ a cap, x = .returned (.slice a (countR itemR L0 e0).1.length cap) ∧ OwnE Value.string 126 w.heap.size w' (.slice a (countR itemR L0 e0).1.length cap) (countR itemR L0 e0).1 ∧ Told w w' r (countR itemR L0 e0).2.1 (countR itemR L0 e0).2.2 := by
  have HR := hide hr
  have HC := hide (rshort_any r e0 L0 w hr hL)
  have hle := shortR_le L0 e0
  have hlt := shortR_lt L0 e0
  have HCR : Hid (countR itemR L0 e0 = listR itemR (shortR L0 e0).1 (shortR L0 e0).2.1 (shortR L0 e0).2.2) := rfl
  clear hr
  go_enter Tryz.func216, Tryz.ntmps216
  go_wp2_with fail
  refine (unhide HC).mono ?_
  rintro x w1 ⟨rfl, ht⟩
  have HT := hide ht
  clear ht HC
  generalize shortR L0 e0 = S at *
  obtain ⟨C, L1, e1⟩ := S
  simp only at hle hlt HT HCR ⊢
  go_wp2
  go_loopw [5, 6] (fun v t wr => ∃ (c : Nat) (pre : List It) (L : ByteArray) (e : Nat), t = .int .u64 c ∧ c ≤ C ∧ Lat itemR C L1 e1 pre c L e ∧ OwnE Value.string 126 w.heap.size wr v pre ∧ Told w wr r L e) (fun _ t _ => (intOf t).toNat)
  case atStart => exact ⟨C, [], L1, e1, rfl, Nat.le_refl _, Lat.start _ _ _ _, OwnE.nil _ _ _ _, unhide HT⟩
  case round =>
    obtain ⟨c, pre, L, e, rfl, hc, hlat, hown, htold⟩ := hrel
    have HLat := hide hlat
    have HO := hide hown
    have HTo := hide htold
    obtain ⟨a, cap, rfl⟩ := hown.form
    clear hlat hown htold
    by_cases h0 : c = 0
    · subst h0
      have HD := hide (unhide HLat).done
      go_wp2
      go_ret
      have e := (unhide HCR).trans (unhide HD)
      rw [e]
      exact ⟨a, cap, rfl, unhide HO, unhide HTo⟩
    · have hp : 0 < c := by omega
      clear h0
      go_wp2_with fail
      refine (err_any r e L wr (unhide HTo).2).mono ?_
      rintro x w3 ⟨rfl, hw⟩
      have hw := hw.symm
      subst hw
      by_cases he : e = 0
      · subst he
        have hsz := (unhide HLat).many rfl
        have hls := (unhide HLat).less
        obtain ⟨c', rfl⟩ : ∃ c', c = c' + 1 := ⟨c - 1, by omega⟩
        have HN := hide ((unhide HLat).next itemR_le itemR_lt)
        go_wp2_with fail
        refine (readItem_any r 0 L _ (unhide HTo).2 (by omega)).mono ?_
        rintro x w4 ⟨rfl, ht⟩
        have HO4 := hide ((unhide HO).told (by decide) (unhide HTo).2 ht)
        have HT4 := hide ((unhide HTo).then ht)
        clear ht
        have hB : w.heap.size ≤ w4.heap.size := (unhide HT4).1.size
        have hwr : IntKind.u64.wrap ((c' : Int) + 1 - 1) = (c' : Int) := by rw [IntKind.wrap_u64]; omega
        go_wp2_with (at_builtin; refine app_gen (news := [.string (itemR L 0).1.1, .string (itemR L 0).1.2]) Tryz.underlying40 info126 rfl (by decide) rfl _ _ rfl rfl rfl (unhide HO4) hB rfl ?_ ?_ ?_ ?_; (exact pair_one rfl); omega; omega; intro a' cap' w5 ho' hg' _; have HO5 := hide (OwnE.snoc (sv := Value.string) (x := (itemR L 0).1) ho'); have HT5 := hide ((unhide HT4).app (by decide) (unhide HO4) (Nat.le_refl _) hg'); clear ho' hg')
        go_roundw
        case rel => exact ⟨c', pre ++ [(itemR L 0).1], (itemR L 0).2.1, (itemR L 0).2.2, by go_num, by omega, unhide HN, unhide HO5, unhide HT5⟩
        case measure => first | (simp [intOf]; done) | (simp [intOf]; omega)
      · have HD := hide ((unhide HLat).err he)
        have f0 : ((e : Int) == 0) = false := beq_eq_false_iff_ne.2 (by omega)
        clear he
        go_wp2
        go_ret
        have e' := (unhide HCR).trans (unhide HD)
        rw [e']
        exact ⟨a, cap, rfl, unhide HO, unhide HTo⟩

set_option maxRecDepth 10000 in
set_option maxHeartbeats 4000000 in
theorem entriesK_any (r e0 : Nat) (L0 : ByteArray) (w : World) (hr : Rd w r L0 e0) (hL : L0.size ≤ 1000000) :
    Calls Tryz.prog 218 #[.pointer (some ⟨r, 0, none⟩), .func (.func 219) #[] #[]] w fun x w' => ∃ a cap, x = .returned (.slice a (countR kidR L0 e0).1.length cap) ∧ OwnE kv 153 w.heap.size w' (.slice a (countR kidR L0 e0).1.length cap) (countR kidR L0 e0).1 ∧ Told w w' r (countR kidR L0 e0).2.1 (countR kidR L0 e0).2.2 := by
  have HR := hide hr
  have HC := hide (rshort_any r e0 L0 w hr hL)
  have hle := shortR_le L0 e0
  have hlt := shortR_lt L0 e0
  have HCR : Hid (countR kidR L0 e0 = listR kidR (shortR L0 e0).1 (shortR L0 e0).2.1 (shortR L0 e0).2.2) := rfl
  clear hr
  go_enter Tryz.func218, Tryz.ntmps218
  go_wp2_with fail
  refine (unhide HC).mono ?_
  rintro x w1 ⟨rfl, ht⟩
  have HT := hide ht
  clear ht HC
  generalize shortR L0 e0 = S at *
  obtain ⟨C, L1, e1⟩ := S
  simp only at hle hlt HT HCR ⊢
  go_wp2
  go_loopw [5, 6] (fun v t wr => ∃ (c : Nat) (pre : List Kd) (L : ByteArray) (e : Nat), t = .int .u64 c ∧ c ≤ C ∧ Lat kidR C L1 e1 pre c L e ∧ OwnE kv 153 w.heap.size wr v pre ∧ Told w wr r L e) (fun _ t _ => (intOf t).toNat)
  case atStart => exact ⟨C, [], L1, e1, rfl, Nat.le_refl _, Lat.start _ _ _ _, OwnE.nil _ _ _ _, unhide HT⟩
  case round =>
    obtain ⟨c, pre, L, e, rfl, hc, hlat, hown, htold⟩ := hrel
    have HLat := hide hlat
    have HO := hide hown
    have HTo := hide htold
    obtain ⟨a, cap, rfl⟩ := hown.form
    clear hlat hown htold
    by_cases h0 : c = 0
    · subst h0
      have HD := hide (unhide HLat).done
      go_wp2
      go_ret
      have e := (unhide HCR).trans (unhide HD)
      rw [e]
      exact ⟨a, cap, rfl, unhide HO, unhide HTo⟩
    · have hp : 0 < c := by omega
      clear h0
      go_wp2_with fail
      refine (err_any r e L wr (unhide HTo).2).mono ?_
      rintro x w3 ⟨rfl, hw⟩
      have hw := hw.symm
      subst hw
      by_cases he : e = 0
      · subst he
        have hsz := (unhide HLat).many rfl
        have hls := (unhide HLat).less
        obtain ⟨c', rfl⟩ : ∃ c', c = c' + 1 := ⟨c - 1, by omega⟩
        have HN := hide ((unhide HLat).next kidR_le kidR_lt)
        go_wp2_with fail
        refine (readKid_any r 0 L _ (unhide HTo).2 (by omega)).mono ?_
        rintro x w4 ⟨rfl, ht⟩
        have HO4 := hide ((unhide HO).told (by decide) (unhide HTo).2 ht)
        have HT4 := hide ((unhide HTo).then ht)
        clear ht
        have hB : w.heap.size ≤ w4.heap.size := (unhide HT4).1.size
        have hwr : IntKind.u64.wrap ((c' : Int) + 1 - 1) = (c' : Int) := by rw [IntKind.wrap_u64]; omega
        go_wp2_with (at_builtin; refine app_gen (news := [.string (kidR L 0).1.1, .int .i64 (kidR L 0).1.2]) Tryz.underlying41 info153 rfl (by decide) rfl _ _ rfl rfl rfl (unhide HO4) hB rfl ?_ ?_ ?_ ?_; (exact pair_one rfl); omega; omega; intro a' cap' w5 ho' hg' _; have HO5 := hide (OwnE.snoc (sv := kv) (x := (kidR L 0).1) ho'); have HT5 := hide ((unhide HT4).app (by decide) (unhide HO4) (Nat.le_refl _) hg'); clear ho' hg')
        go_roundw
        case rel => exact ⟨c', pre ++ [(kidR L 0).1], (kidR L 0).2.1, (kidR L 0).2.2, by go_num, by omega, unhide HN, unhide HO5, unhide HT5⟩
        case measure => first | (simp [intOf]; done) | (simp [intOf]; omega)
      · have HD := hide ((unhide HLat).err he)
        have f0 : ((e : Int) == 0) = false := beq_eq_false_iff_ne.2 (by omega)
        clear he
        go_wp2
        go_ret
        have e' := (unhide HCR).trans (unhide HD)
        rw [e']
        exact ⟨a, cap, rfl, unhide HO, unhide HTo⟩
end Go.Proofs.YtlmgmdnmghgkbaaGreatDoor.L6

/- A node is read, as the program reads it. -/
namespace Go.Proofs.YtlmgmdnmghgkbaaGreatDoor.L6
open Go.ChangeShapes Go.WideShapes Go.ChangeAt Go.RowKit

/-- a node's block: a bool and two slices -/
def Nblk (w : World) (p : Nat) (L : Bool) (ai : Option Addr) (il ci : Nat) (ak : Option Addr) (kl ck : Nat) : Prop := w.heap[p]? = some (.cells #[.bool L, .slice ai il ci, .slice ak kl ck] 43 (0, 0))
variable {w w' : World} {p : Nat} {L : Bool} {ai ak : Option Addr} {il ci kl ck : Nat}
theorem Nblk.cell0 (h : Nblk w p L ai il ci ak kl ck) : w.cell? ⟨p, 0, none⟩ = some (.bool L) := by unfold Nblk at h; simp [World.cell?, h]
theorem Nblk.cell1 (h : Nblk w p L ai il ci ak kl ck) : w.cell? ⟨p, 1, none⟩ = some (.slice ai il ci) := by unfold Nblk at h; simp [World.cell?, h]
theorem Nblk.cell2 (h : Nblk w p L ai il ci ak kl ck) : w.cell? ⟨p, 2, none⟩ = some (.slice ak kl ck) := by unfold Nblk at h; simp [World.cell?, h]
theorem Nblk.free (h : Nblk w p L ai il ci ak kl ck) (j : Nat) : w.frozen? ⟨p, j, none⟩ = false := by unfold Nblk at h; simp [World.frozen?, h]
theorem Nblk.lt (h : Nblk w p L ai il ci ak kl ck) : p < w.heap.size := lt_of_block h
theorem Nblk.set0 (h : Nblk w p L ai il ci ak kl ck) (L' : Bool) : Nblk (w.setCell ⟨p, 0, none⟩ (.bool L')) p L' ai il ci ak kl ck := by unfold Nblk at *; simp [World.setCell, Array.getElem?_modify, h]
theorem Nblk.set1 (h : Nblk w p L ai il ci ak kl ck) (a : Option Addr) (n c : Nat) : Nblk (w.setCell ⟨p, 1, none⟩ (.slice a n c)) p L a n c ak kl ck := by unfold Nblk at *; simp [World.setCell, Array.getElem?_modify, h]
theorem Nblk.set2 (h : Nblk w p L ai il ci ak kl ck) (a : Option Addr) (n c : Nat) : Nblk (w.setCell ⟨p, 2, none⟩ (.slice a n c)) p L ai il ci a n c := by unfold Nblk at *; simp [World.setCell, Array.getElem?_modify, h]
theorem Nblk.new (w : World) (L : Bool) (ai ak : Option Addr) (il ci kl ck : Nat) : Nblk (w.alloc (.cells #[.bool L, .slice ai il ci, .slice ak kl ck] 43)) w.heap.size L ai il ci ak kl ck := heap_alloc_new w _
theorem Nblk.below (h : Nblk w p L ai il ci ak kl ck) (hb : Below w.heap.size w w') : Nblk w' p L ai il ci ak kl ck := (hb.block p h.lt).trans h
theorem Nblk.told {r e : Nat} {M : ByteArray} (h : Nblk w p L ai il ci ak kl ck) (ht : Told w w' r M e) (hp : p ≠ r) : Nblk w' p L ai il ci ak kl ck := (ht.1.block p h.lt (fun e => hp (Option.some.inj e))).trans h
/-- no text stands in a node's block -/
theorem Nblk.no (h : Nblk w p L ai il ci ak kl ck) (j : Nat) (s : ByteArray) : w.cell? ⟨p, j, none⟩ ≠ some (.string s) := by
  intro e
  rcases j with _ | _ | _ | j
  · rw [h.cell0] at e; simp at e
  · rw [h.cell1] at e; simp at e
  · rw [h.cell2] at e; simp at e
  · unfold Nblk at h
    simp [World.cell?, h] at e
theorem Row.set {β : Type} {sv : β → Value} {a : Option Addr} {l : List (ByteArray × β)} (h : Row sv w a l) (hp : Nblk w p L ai il ci ak kl ck) (j : Nat) (u : Value) : Row sv (w.setCell ⟨p, j, none⟩ u) a l := by
  rcases h with h | ⟨b, off, e, hh⟩
  · exact .inl h
  · refine .inr ⟨b, off, e, fun i x hx => ?_⟩
    obtain ⟨c0, c1⟩ := hh i x hx
    have hb : b ≠ p := fun e => by subst e; exact hp.no _ _ c0
    exact ⟨(World.cell?_setCell_other w ⟨p, j, none⟩ ⟨b, off + i * 2, none⟩ u (fun e => hb (by injection e with e1 _ _; exact e1.symm))).trans c0, (World.cell?_setCell_other w ⟨p, j, none⟩ ⟨b, off + i * 2 + 1, none⟩ u (fun e => hb (by injection e with e1 _ _; exact e1.symm))).trans c1⟩
theorem Has.set {n : Nd} {bi bk : Option Addr} (h : Has w n bi bk) (hp : Nblk w p L ai il ci ak kl ck) (j : Nat) (u : Value) : Has (w.setCell ⟨p, j, none⟩ u) n bi bk := ⟨h.1.set hp j u, h.2.set hp j u⟩
/-- a node is stored in a node's block -/
theorem Nblk.store (h : Nblk w p L ai il ci ak kl ck) (L' : Bool) (a : Option Addr) (n c : Nat) (a2 : Option Addr) (n2 c2 : Nat) {m : Nd} {bi bk : Option Addr} (hm : Has w m bi bk) :
    Nblk (((w.setCell ⟨p, 0, none⟩ (.bool L')).setCell ⟨p, 1, none⟩ (.slice a n c)).setCell ⟨p, 2, none⟩ (.slice a2 n2 c2)) p L' a n c a2 n2 c2 ∧ Has (((w.setCell ⟨p, 0, none⟩ (.bool L')).setCell ⟨p, 1, none⟩ (.slice a n c)).setCell ⟨p, 2, none⟩ (.slice a2 n2 c2)) m bi bk :=
  ⟨((h.set0 L').set1 a n c).set2 a2 n2 c2, ((hm.set h 0 _).set (h.set0 L') 1 _).set ((h.set0 L').set1 a n c) 2 _⟩

/-- THE DOCUMENT's: what bytes seem to be the bytes of -/
def readN (S : ByteArray) : Nd × ByteArray × Nat :=
  if (byteR S 0).1 = 1 then (⟨true, (countR itemR (byteR S 0).2.1 (byteR S 0).2.2).1, []⟩, (countR itemR (byteR S 0).2.1 (byteR S 0).2.2).2)
  else if (byteR S 0).1 = 2 then (⟨false, [], (countR kidR (byteR S 0).2.1 (byteR S 0).2.2).1⟩, (countR kidR (byteR S 0).2.1 (byteR S 0).2.2).2)
  else (⟨false, [], []⟩, (byteR S 0).2)
def ReadSaid (n : Nd) (w : World) (x : Ending) (w' : World) (r : Nat) : Prop := ∃ (ai ak : Option Addr) (ci ck : Nat), x = .returned (.agg #[.bool n.leaf, .slice ai n.its.length ci, .slice ak n.kds.length ck]) ∧ Has w' n ai ak ∧ w.grownBy w' (some r)
theorem grown_store {a b : World} {r : Option Nat} (h : a.grownBy b r) (p j : Nat) (u : Value) (hp : a.heap.size ≤ p) : a.grownBy (b.setCell ⟨p, j, none⟩ u) r :=
  ⟨h.os, h.tape, h.output, by have := h.size; simpa [World.setCell] using this, fun k hk hne => (Below.heap_setCell _ ⟨p, j, none⟩ _ _ (show k ≠ p by omega)).trans (h.block k hk hne)⟩

set_option maxRecDepth 10000 in
set_option maxHeartbeats 2000000 in
theorem read_node (r : Nat) (S : ByteArray) (w : World) (hr : Rd w r S 0) (hL : S.size ≤ 1000000) :
    Calls Tryz.prog 184 #[.pointer (some ⟨r, 0, none⟩)] w fun x w' => ReadSaid (readN S).1 w x w' r := by
  have hrl := hr.lt
  have hpr : w.heap.size ≠ r := by omega
  have hnew := Nblk.new w false none none 0 0 0 0
  have HC := hide (byte_any r 0 S _ (hr.alloc (.cells #[.bool false, .slice none 0 0, .slice none 0 0] 43)) hL)
  have hle := byteR_le S 0
  have HI := hide (fun W (hW : Rd W r (byteR S 0).2.1 (byteR S 0).2.2) => entriesI_any r _ _ W hW (by omega))
  have HK := hide (fun W (hW : Rd W r (byteR S 0).2.1 (byteR S 0).2.2) => entriesK_any r _ _ W hW (by omega))
  have HN := hide hnew
  unfold readN
  clear hr hnew hle
  generalize byteR S 0 = T at *
  by_cases h1 : T.1 = 1
  · have f1 : ((T.1 : Int) == 1) = true := beq_iff_eq.2 (by omega)
    rw [if_pos h1]
    clear h1 HK
    generalize countR itemR T.2.1 T.2.2 = U at *
    go_enter Tryz.func184, Tryz.ntmps184
    go_wp2_with fail
    refine (unhide HC).mono ?_
    rintro x w1 ⟨rfl, ht⟩
    have HP := hide ((unhide HN).told ht hpr)
    have HT := hide ht.boxed
    have HD := hide ht.2
    clear ht HC HN
    obtain ⟨p, hp⟩ : ∃ y, y = w.heap.size := ⟨_, rfl⟩
    rw [← hp] at HP hpr ⊢
    have hpw : w.heap.size ≤ p := Nat.le_of_eq hp.symm
    clear hp
    go_wp2_with fail
    refine (unhide HI _ (unhide HD)).mono ?_
    rintro x w2 ⟨a, cap, rfl, ho, ht⟩
    have hp2 := (unhide HP).told ht hpr
    have HG := hide (grown_trans (unhide HT).1 ht.1)
    have HO := hide ho.row
    have c0 := hp2.cell0
    have c1 := hp2.cell1
    have c2 := hp2.cell2
    have f0 := hp2.free 0
    have f1' := hp2.free 1
    have f2 := hp2.free 2
    have HP2 := hide hp2
    clear ho ht hp2
    go_wp2
    have hs := (unhide HP2).store true a U.1.length cap none 0 0 (m := ⟨true, U.1, []⟩) (bi := a) (bk := none) ⟨unhide HO, .inl rfl⟩
    refine bodyPost_ret (v := .agg #[.bool true, .slice a U.1.length cap, .slice none 0 0]) ?_ rfl ⟨a, none, cap, 0, rfl, hs.2, grown_store (grown_store (grown_store (unhide HG) p 0 _ hpw) p 1 _ hpw) p 2 _ hpw⟩
    rw [results_cell1 rfl]
    go_simp
  · have f1 : ((T.1 : Int) == 1) = false := beq_eq_false_iff_ne.2 (by omega)
    rw [if_neg h1]
    clear h1
    by_cases h2 : T.1 = 2
    · have g1 : ((T.1 : Int) == 2) = true := beq_iff_eq.2 (by omega)
      rw [if_pos h2]
      clear h2 HI
      generalize countR kidR T.2.1 T.2.2 = U at *
      go_enter Tryz.func184, Tryz.ntmps184
      go_wp2_with fail
      refine (unhide HC).mono ?_
      rintro x w1 ⟨rfl, ht⟩
      have HP := hide ((unhide HN).told ht hpr)
      have HT := hide ht.boxed
      have HD := hide ht.2
      clear ht HC HN
      obtain ⟨p, hp⟩ : ∃ y, y = w.heap.size := ⟨_, rfl⟩
      rw [← hp] at HP hpr ⊢
      have hpw : w.heap.size ≤ p := Nat.le_of_eq hp.symm
      clear hp
      go_wp2_with fail
      refine (unhide HK _ (unhide HD)).mono ?_
      rintro x w2 ⟨a, cap, rfl, ho, ht⟩
      have hp2 := (unhide HP).told ht hpr
      have HG := hide (grown_trans (unhide HT).1 ht.1)
      have HO := hide ho.row
      have c0 := hp2.cell0
      have c1 := hp2.cell1
      have c2 := hp2.cell2
      have f0 := hp2.free 0
      have f1' := hp2.free 1
      have f2 := hp2.free 2
      have HP2 := hide hp2
      clear ho ht hp2
      go_wp2
      have hs := (unhide HP2).store false none 0 0 a U.1.length cap (m := ⟨false, [], U.1⟩) (bi := none) (bk := a) ⟨.inl rfl, unhide HO⟩
      refine bodyPost_ret (v := .agg #[.bool false, .slice none 0 0, .slice a U.1.length cap]) ?_ rfl ⟨none, a, 0, cap, rfl, hs.2, grown_store (grown_store (grown_store (unhide HG) p 0 _ hpw) p 1 _ hpw) p 2 _ hpw⟩
      rw [results_cell1 rfl]
      go_simp
    · have g1 : ((T.1 : Int) == 2) = false := beq_eq_false_iff_ne.2 (by omega)
      rw [if_neg h2]
      clear h2 HI HK
      go_enter Tryz.func184, Tryz.ntmps184
      go_wp2_with fail
      refine (unhide HC).mono ?_
      rintro x w1 ⟨rfl, ht⟩
      have HP := hide ((unhide HN).told ht hpr)
      have HT := hide ht.boxed
      have HD := hide ht.2
      clear ht HC HN
      obtain ⟨p, hp⟩ : ∃ y, y = w.heap.size := ⟨_, rfl⟩
      rw [← hp] at HP hpr ⊢
      have hpw : w.heap.size ≤ p := Nat.le_of_eq hp.symm
      clear hp
      have hp2 := unhide HP
      have c0 := hp2.cell0
      have c1 := hp2.cell1
      have c2 := hp2.cell2
      have f0 := hp2.free 0
      have f1' := hp2.free 1
      have f2 := hp2.free 2
      clear hp2
      go_wp2
      have hs := (unhide HP).store false none 0 0 none 0 0 (m := ⟨false, [], []⟩) (bi := none) (bk := none) ⟨.inl rfl, .inl rfl⟩
      refine bodyPost_ret (v := .agg #[.bool false, .slice none 0 0, .slice none 0 0]) ?_ rfl ⟨none, none, 0, 0, rfl, hs.2, grown_store (grown_store (grown_store (unhide HT).1 p 0 _ hpw) p 1 _ hpw) p 2 _ hpw⟩
      rw [results_cell1 rfl]
      go_simp
end Go.Proofs.YtlmgmdnmghgkbaaGreatDoor.L6

/- Decode, as the program answers. -/
namespace Go.Proofs.YtlmgmdnmghgkbaaGreatDoor.L6
open Go.ChangeShapes Go.WideShapes Go.ChangeAt Go.RowKit

theorem listR_len {α : Type} {f : ByteArray → Nat → α × ByteArray × Nat} (hf0 : ∀ L, (f L 0).2.2 = 0 → (f L 0).2.1.size + 1 ≤ L.size) (c : Nat) (L : ByteArray) (e : Nat) : (listR f c L e).1.length ≤ L.size + 1 := by
  induction c generalizing L e with
  | zero => simp [listR]
  | succ c ih =>
    by_cases he : e = 0
    · subst he
      rw [listR_next]
      show (listR f c (f L 0).2.1 (f L 0).2.2).1.length + 1 ≤ _
      by_cases h0 : (f L 0).2.2 = 0
      · have h1 := ih (f L 0).2.1 (f L 0).2.2
        have h2 := hf0 L h0
        omega
      · rw [listR_err f c _ _ h0]
        simp
    · rw [listR_err f _ _ _ he]
      simp
theorem readN_its (S : ByteArray) (h : S.size ≤ 1007) : (readN S).1.its.length ≤ 1100 := by
  unfold readN
  split
  · show (countR itemR (byteR S 0).2.1 (byteR S 0).2.2).1.length ≤ _
    have h1 := listR_len itemR_lt (shortR (byteR S 0).2.1 (byteR S 0).2.2).1 (shortR (byteR S 0).2.1 (byteR S 0).2.2).2.1 (shortR (byteR S 0).2.1 (byteR S 0).2.2).2.2
    have h2 := shortR_le (byteR S 0).2.1 (byteR S 0).2.2
    have h3 := byteR_le S 0
    unfold countR
    omega
  · split
    · exact Nat.zero_le _
    · exact Nat.zero_le _
theorem readN_kds (S : ByteArray) (h : S.size ≤ 1007) : (readN S).1.kds.length ≤ 1100 := by
  unfold readN
  split
  · exact Nat.zero_le _
  · split
    · show (countR kidR (byteR S 0).2.1 (byteR S 0).2.2).1.length ≤ _
      have h1 := listR_len kidR_lt (shortR (byteR S 0).2.1 (byteR S 0).2.2).1 (shortR (byteR S 0).2.1 (byteR S 0).2.2).2.1 (shortR (byteR S 0).2.1 (byteR S 0).2.2).2.2
      have h2 := shortR_le (byteR S 0).2.1 (byteR S 0).2.2
      have h3 := byteR_le S 0
      unfold countR
      omega
    · exact Nat.zero_le _

def nd0 : Nd := ⟨false, [], []⟩
/-- THE DOCUMENT's: the node of these bytes, or the error -/
def decodeN (S : ByteArray) : Nd × Nat := if S.size ≤ 1007 ∧ encodeN (readN S).1 = (S, 0) then ((readN S).1, 0) else (nd0, 60)
def DecSaid (T : Nd × Nat) (w : World) (x : Ending) (w' : World) : Prop := ∃ (ai ak : Option Addr) (ci ck : Nat), x = .returned (.tuple #[.agg #[.bool T.1.leaf, .slice ai T.1.its.length ci, .slice ak T.1.kds.length ck], .int .i64 (T.2 : Int)]) ∧ Has w' T.1 ai ak ∧ Below w.heap.size w w'
theorem below_store {a b : World} {B : Nat} (h : Below B a b) (p j : Nat) (u : Value) (hp : B ≤ p) : Below B a (b.setCell ⟨p, j, none⟩ u) := h.setCell hp u
theorem str_neq {A B : ByteArray} (h : A ≠ B) : (A.toList == B.toList) = false := by
  rw [beq_eq_false_iff_ne]
  intro e
  rw [ByteArray.toList_eq, ByteArray.toList_eq] at e
  exact h (ByteArray.ext (Array.toList_inj.1 e))
theorem str_same (A : ByteArray) : (A.toList == A.toList) = true := by simp
theorem read_new (s : ByteArray) (w : World) :
    Calls Tryz.prog 185 #[.string s] w fun x w' => ∃ g, x = .returned (.pointer (some ⟨g, 0, none⟩)) ∧ w.heap.size ≤ g ∧ Rd w' g s 0 ∧ Below w.heap.size w w' := by
  refine (read_any s w).mono ?_
  rintro x w' ⟨rfl, rfl⟩
  exact ⟨_, rfl, Nat.le_refl _, Rd.new w s, (Below.refl _ _).alloc (Nat.le_refl _) _⟩
/-- the program has read a node -/
theorem read_whole (S : ByteArray) (g : Nat) (W w : World) (hb : Below W.heap.size W w) (hg : W.heap.size ≤ g) (hr : Rd w g S 0) (hL : S.size ≤ 1000000) :
    Calls Tryz.prog 184 #[.pointer (some ⟨g, 0, none⟩)] w fun x w' => ∃ (ai ak : Option Addr) (ci ck : Nat), x = .returned (.agg #[.bool (readN S).1.leaf, .slice ai (readN S).1.its.length ci, .slice ak (readN S).1.kds.length ck]) ∧ Has w' (readN S).1 ai ak ∧ Below W.heap.size W w' := by
  refine (read_node g S w hr hL).mono ?_
  rintro x w' ⟨ai, ak, ci, ck, he, hh, hgr⟩
  exact ⟨ai, ak, ci, ck, he, hh, hb.grown hgr hb.size (fun k hk => by injection hk with hk; omega)⟩

set_option maxRecDepth 10000 in
set_option maxHeartbeats 2000000 in
theorem decode_long (S : ByteArray) (w : World) (h : 1007 < S.size) :
    Calls Tryz.prog 143 #[.string S] w fun x w' => DecSaid (nd0, 60) w x w' := by
  go_enter Tryz.func143, Tryz.ntmps143
  go_wp2
  refine bodyPost_ret (v := .tuple #[.agg #[.bool false, .slice none 0 0, .slice none 0 0], .int .i64 60]) ?_ rfl ⟨none, none, 0, 0, rfl, ⟨.inl rfl, .inl rfl⟩, below_alloc _ _⟩
  rw [results_cell_tmp rfl]
  go_simp

set_option maxRecDepth 10000 in
set_option maxHeartbeats 4000000 in
theorem decode_short (S : ByteArray) (w : World) (h : S.size ≤ 1007) :
    Calls Tryz.prog 143 #[.string S] w fun x w' => DecSaid (decodeN S) w x w' := by
  have hi := readN_its S h
  have hk := readN_kds S h
  have HD : Hid (decodeN S = if encodeN (readN S).1 = (S, 0) then ((readN S).1, 0) else (nd0, 60)) := by
    show _ = _
    unfold decodeN
    by_cases he : encodeN (readN S).1 = (S, 0)
    · rw [if_pos ⟨h, he⟩, if_pos he]
    · rw [if_neg (fun h => he h.2), if_neg he]
  have HRW := hide (fun g W w' hb hg hr => read_whole S g W w' hb hg hr (by omega))
  generalize readN S = N at *
  obtain ⟨n, LL, ee⟩ := N
  simp only at hi hk HD HRW
  have HP := hide (Nblk.new w false none none 0 0 0 0)
  have HB := hide (below_alloc w (.cells #[.bool false, .slice none 0 0, .slice none 0 0] 43))
  go_enter Tryz.func143, Tryz.ntmps143
  go_wp2_with fail
  obtain ⟨p, hp⟩ : ∃ y, y = w.heap.size := ⟨_, rfl⟩
  rw [← hp] at HP ⊢
  generalize w.alloc (.cells #[.bool false, .slice none 0 0, .slice none 0 0] 43) = w1 at *
  have hpw : w.heap.size ≤ p := Nat.le_of_eq hp.symm
  clear hp
  refine (read_new S w1).mono ?_
  rintro x w2 ⟨g, rfl, hg, hr, hb⟩
  have HG := hide (And.intro hg (And.intro hr hb))
  clear hg hr hb
  go_wp2_with fail
  refine (unhide HRW g w1 _ (unhide HG).2.2 (unhide HG).1 (unhide HG).2.1).mono ?_
  rintro x w3 ⟨ai, ak, ci, ck, rfl, hh, hb⟩
  have HB3 := hide hb
  have HH3 := hide hh
  have HP3 := hide ((unhide HP).below hb)
  clear hb hh HG HP
  go_wp2_with fail
  have HN := hide (Nblk.new w3 n.leaf ai ak n.its.length ci n.kds.length ck)
  have HB4 := hide (below_alloc w3 (.cells #[.bool n.leaf, .slice ai n.its.length ci, .slice ak n.kds.length ck] 43))
  obtain ⟨q, hq⟩ : ∃ y, y = w3.heap.size := ⟨_, rfl⟩
  rw [← hq] at HN ⊢
  generalize w3.alloc (.cells #[.bool n.leaf, .slice ai n.its.length ci, .slice ak n.kds.length ck] 43) = w4 at *
  clear hq
  refine (encode_any n ai ak ci ck w4 ((unhide HH3).grow (unhide HB4)) hi hk).mono ?_
  rintro x w5 ⟨rfl, hb⟩
  have hp5 := ((unhide HP3).below (unhide HB4)).below hb
  have hq5 := (unhide HN).below hb
  have HH5 := hide (((unhide HH3).grow (unhide HB4)).grow hb)
  have HB5 := hide (below_then (below_then (below_then (unhide HB) (unhide HB3)) (unhide HB4)) hb)
  have c0 := hp5.cell0
  have c1 := hp5.cell1
  have c2 := hp5.cell2
  have f0 := hp5.free 0
  have f1 := hp5.free 1
  have f2 := hp5.free 2
  have d0 := hq5.cell0
  have d1 := hq5.cell1
  have d2 := hq5.cell2
  have HP5 := hide hp5
  clear hb hp5 hq5 HB HB3 HB4 HH3 HP3 HN
  generalize encodeN n = E at *
  obtain ⟨T, er⟩ := E
  simp only
  by_cases her : er = 0
  · subst her
    by_cases hT : T = S
    · subst hT
      have hs := str_same T
      have hd : decodeN T = (n, 0) := by rw [unhide HD, if_pos rfl]
      clear HD
      have HD := hide hd
      clear hd
      go_wp2
      have hst := (unhide HP5).store n.leaf ai n.its.length ci ak n.kds.length ck (unhide HH5)
      refine bodyPost_ret (v := .tuple #[.agg #[.bool n.leaf, .slice ai n.its.length ci, .slice ak n.kds.length ck], .int .i64 0]) ?_ rfl ?_
      · rw [results_cell_tmp rfl]
        go_simp
      · rw [unhide HD]
        exact ⟨ai, ak, ci, ck, rfl, hst.2, below_store (below_store (below_store (unhide HB5) p 0 _ hpw) p 1 _ hpw) p 2 _ hpw⟩
    · have hs := str_neq hT
      have hd : decodeN S = (nd0, 60) := by rw [unhide HD, if_neg (fun e => hT (Prod.ext_iff.1 e).1)]
      have HD := hide hd
      clear hd hT
      go_wp2
      refine bodyPost_ret (v := .tuple #[.agg #[.bool false, .slice none 0 0, .slice none 0 0], .int .i64 60]) ?_ rfl ?_
      · rw [results_cell_tmp rfl]
        go_simp
      · rw [unhide HD]
        exact ⟨none, none, 0, 0, rfl, ⟨.inl rfl, .inl rfl⟩, below_store (below_store (below_store (unhide HB5) p 0 _ hpw) p 1 _ hpw) p 2 _ hpw⟩
  · have g0 : ((er : Int) == 0) = false := beq_eq_false_iff_ne.2 (by omega)
    have g1 : ((er : Int) != 0) = true := bne_iff_ne.2 (by omega)
    have hd : decodeN S = (nd0, 60) := by rw [unhide HD, if_neg (fun e => her (Prod.ext_iff.1 e).2)]
    have HD := hide hd
    clear hd her
    go_wp2
    refine bodyPost_ret (v := .tuple #[.agg #[.bool false, .slice none 0 0, .slice none 0 0], .int .i64 60]) ?_ rfl ?_
    · rw [results_cell_tmp rfl]
      go_simp
    · rw [unhide HD]
      exact ⟨none, none, 0, 0, rfl, ⟨.inl rfl, .inl rfl⟩, below_store (below_store (below_store (unhide HB5) p 0 _ hpw) p 1 _ hpw) p 2 _ hpw⟩

theorem decode_any (S : ByteArray) (w : World) : Calls Tryz.prog 143 #[.string S] w fun x w' => DecSaid (decodeN S) w x w' := by
  by_cases h : S.size ≤ 1007
  · exact decode_short S w h
  · have e : decodeN S = (nd0, 60) := by unfold decodeN; rw [if_neg (fun h' => h h'.1)]
    rw [e]
    exact decode_long S w (by omega)
end Go.Proofs.YtlmgmdnmghgkbaaGreatDoor.L6

/- Plain mathematics of a heap: what the document says of its calls, as functions; how many hold a place. -/
namespace Go.Proofs.YtlmgmdnmghgkbaaGreatDoor

/-- a heap: its disk, its sectors from 2 on, its generation, the kids of each place -/
structure Hp where
  dk : L3.Dk
  al : List L5.St
  gen : Int
  kids : Nat → List Int

def cntL (l : List L5.St) (p : Int) : Nat := L5.cntS (L5.sec 2 l p)
def Hp.cnt (h : Hp) (p : Int) : Nat := cntL h.al p
def kindN (n : L6.Nd) : Nat := if n.leaf then 1 else 2
def places (n : L6.Nd) : List Int := n.kds.map (fun x => x.2)
def setK (f : Nat → List Int) (p : Nat) (l : List Int) : Nat → List Int := fun i => if i = p then l else f i

/-- the node of a sector, its generation, the error -/
def nodeOf (S : ByteArray) : L6.Nd × Int × Int :=
  if (L4.openR S).2.2.2 ≠ 0 then (L6.nd0, 0, 70)
  else if (L6.decodeN (L4.openR S).2.2.1).2 ≠ 0 then (L6.nd0, 0, 70)
  else if (L4.openR S).1 ≠ (kindN (L6.decodeN (L4.openR S).2.2.1).1 : Int) then (L6.nd0, 0, 70)
  else ((L6.decodeN (L4.openR S).2.2.1).1, (L4.openR S).2.1, 0)
def fetchM (d : L3.Dk) (p : Int) : L6.Nd × Int × Int :=
  if (L3.readM d p).2 ≠ 0 then (L6.nd0, 0, (L3.readM d p).2) else nodeOf (L3.readM d p).1
def getR (h : Hp) (p : Int) : L6.Nd × Int := if h.cnt p = 0 then (L6.nd0, 51) else ((fetchM h.dk p).1, (fetchM h.dk p).2.2)

def mayE (l : List L5.St) (ks : List Int) : Int :=
  if ks.any (fun k => decide (cntL l k = 0)) = true then 51 else if ks.any (fun k => decide (5000 < cntL l k + ks.count k)) = true then 52 else 0
def holdAll (l : List L5.St) (ks : List Int) : List L5.St := ks.foldl (fun l k => L5.holdM 2 l k) l
def sectorN (gen : Int) (n : L6.Nd) : ByteArray := (L4.wrapR (kindN n : Int) gen (L6.encodeN n).1).1
/-- a node's sector is taken and written -/
def storeR (h : Hp) (S : ByteArray) : Int × Int × Hp :=
  if L5.takeE h.al ≠ 0 then (0, L5.takeE h.al, h)
  else if L3.writeE h.dk (L5.takeN 2 h.al) S ≠ 0 then
    (0, L3.writeE h.dk (L5.takeN 2 h.al) S, { h with dk := L3.writeM h.dk (L5.takeN 2 h.al) S, al := L5.dropM 2 (L5.takeM h.al h.gen) (L5.takeN 2 h.al) h.gen })
  else (L5.takeN 2 h.al, 0, { h with dk := L3.writeM h.dk (L5.takeN 2 h.al) S, al := L5.takeM h.al h.gen })
def putR (h : Hp) (n : L6.Nd) : Int × Int × Hp :=
  if (L6.encodeN n).2 ≠ 0 then (0, ((L6.encodeN n).2 : Int), h)
  else if mayE h.al (places n) ≠ 0 then (0, mayE h.al (places n), h)
  else if (storeR h (sectorN h.gen n)).2.1 ≠ 0 then (0, (storeR h (sectorN h.gen n)).2.1, (storeR h (sectorN h.gen n)).2.2)
  else ((storeR h (sectorN h.gen n)).1, 0, { (storeR h (sectorN h.gen n)).2.2 with al := holdAll (storeR h (sectorN h.gen n)).2.2.al (places n), kids := setK h.kids (storeR h (sectorN h.gen n)).1.toNat (places n) })
def holdR (h : Hp) (p : Int) : Hp := { h with al := L5.holdM 2 h.al p }

/-- one holder less; f: how deep it may go -/
def dropH : Nat → Hp → Int → Hp
  | 0, h, _ => h
  | f + 1, h, p =>
    if h.cnt p = 0 then h
    else if 0 < cntL (L5.dropM 2 h.al p h.gen) p then { h with al := L5.dropM 2 h.al p h.gen }
    else (h.kids p.toNat).foldl (dropH f) { h with al := L5.dropM 2 h.al p h.gen, kids := setK h.kids p.toNat [] }
def dropR (h : Hp) (p : Int) : Hp := dropH (h.al.length + 1) h p

def settleE (h : Hp) : Int := if h.gen = 1152921504606846976 then 52 else 0
def settleM (h : Hp) : Hp := if h.gen = 1152921504606846976 then h else { h with al := L5.freeM h.al h.gen, gen := h.gen + 1 }

mutual
/-- a place is held, with all below it -/
def loadH : Nat → Hp → Int → Hp × Int
  | 0, h, _ => (h, 0)
  | f + 1, h, p =>
    if p < 2 ∨ (h.dk.old.length : Int) ≤ p then (h, 31)
    else if 0 < h.cnt p then (holdR h p, L5.holdE 2 h.al p)
    else if (fetchM h.dk p).2.2 ≠ 0 then (h, (fetchM h.dk p).2.2)
    else if L5.markE 2 h.al p ≠ 0 then (h, L5.markE 2 h.al p)
    else loadL f { h with al := L5.markM 2 h.al p (fetchM h.dk p).2.1, kids := setK h.kids p.toNat (places (fetchM h.dk p).1) } (places (fetchM h.dk p).1)
def loadL : Nat → Hp → List Int → Hp × Int
  | _, h, [] => (h, 0)
  | f, h, k :: r => if (loadH f h k).2 ≠ 0 then loadH f h k else loadL f (loadH f h k).1 r
end

/-! how many hold a place -/
theorem cnt_upd {l : List L5.St} {p q : Int} {s : L5.St} (hp : L5.In 2 l p) : cntL (L5.upd 2 l p s) q = if q = p then L5.cntS s else cntL l q := by
  unfold cntL
  split
  · rename_i e
    rw [e, L5.sec_upd hp]
  · rename_i e
    rw [L5.sec_upd_ne e]
theorem cnt_in {l : List L5.St} {p : Int} (h : 0 < cntL l p) : L5.In 2 l p := by
  by_cases hi : L5.In 2 l p
  · exact hi
  · unfold cntL at h
    rw [L5.sec_none hi] at h
    exact absurd h (by decide)
theorem cntS_drop (g : Int) (s : L5.St) : L5.cntS (L5.dropS g s) = L5.cntS s - 1 := by
  unfold L5.dropS
  split
  · split <;> rfl
  · rfl
  · rename_i h1 h2
    match s, h1, h2 with
    | none, _, _ => rfl
    | some (0, g), _, _ => rfl
    | some (1, g), h1, _ => exact absurd rfl (h1 g)
    | some (h + 2, g), _, h2 => exact absurd rfl (h2 h g)
theorem cnt_drop (l : List L5.St) (p q g : Int) : cntL (L5.dropM 2 l p g) q = if q = p then cntL l p - 1 else cntL l q := by
  unfold L5.dropM
  by_cases hi : L5.In 2 l p
  · rw [cnt_upd hi, cntS_drop]
    rfl
  · have e : L5.upd 2 l p (L5.dropS g (L5.sec 2 l p)) = l := by unfold L5.upd; rw [if_neg hi]
    rw [e]
    split
    · rename_i e
      rw [e]
      have : cntL l p = 0 := by unfold cntL; rw [L5.sec_none hi]; rfl
      omega
    · rfl
theorem upd_self (l : List L5.St) (p : Int) : L5.upd 2 l p (L5.sec 2 l p) = l := by
  unfold L5.upd
  split
  · rename_i hi
    apply List.ext_getElem?
    intro j
    rw [List.getElem?_set]
    split
    · rename_i e
      rw [← e, if_pos (L5.ix_lt hi), L5.sec_at hi]
    · rfl
  · rfl
/-- of one that nobody holds nothing is dropped -/
theorem drop_none (l : List L5.St) (p g : Int) (h : cntL l p = 0) : L5.dropM 2 l p g = l := by
  unfold L5.dropM
  have e : L5.dropS g (L5.sec 2 l p) = L5.sec 2 l p := by
    unfold cntL at h
    match hs : L5.sec 2 l p, h with
    | none, _ => rfl
    | some (0, g'), _ => rfl
  rw [e, upd_self]
theorem cnt_hold (l : List L5.St) (p q : Int) (h0 : 0 < cntL l p) (h1 : cntL l p ≠ 5000) : cntL (L5.holdM 2 l p) q = if q = p then cntL l p + 1 else cntL l q := by
  unfold L5.holdM
  rw [if_neg (show ¬ L5.cntS (L5.sec 2 l p) = 5000 from h1), cnt_upd (cnt_in h0)]
  have e : L5.cntS (L5.holdS (L5.sec 2 l p)) = cntL l p + 1 := by
    unfold cntL at h0 ⊢
    match hs : L5.sec 2 l p with
    | none => rw [hs] at h0; exact absurd h0 (by decide)
    | some (0, g) => rw [hs] at h0; exact absurd h0 (Nat.lt_irrefl 0)
    | some (k + 1, g) => rfl
  rw [e]
theorem length_drop (l : List L5.St) (p g : Int) : (L5.dropM 2 l p g).length = l.length := L5.upd_length _ _ _ _
theorem length_hold (l : List L5.St) (p : Int) : (L5.holdM 2 l p).length = l.length := by
  unfold L5.holdM
  split
  · rfl
  · exact L5.upd_length _ _ _ _
theorem length_holdAll (ks : List Int) (l : List L5.St) : (holdAll l ks).length = l.length := by
  induction ks generalizing l with
  | nil => rfl
  | cons k r ih =>
    show (holdAll (L5.holdM 2 l k) r).length = _
    rw [ih, length_hold]
theorem length_take (l : List L5.St) (g : Int) : (L5.takeM l g).length = l.length := by
  unfold L5.takeM
  split
  · exact List.length_set
  · rfl
theorem cntS_freed (g : Int) (s : L5.St) : L5.cntS (L5.freedS g s) = L5.cntS s := by
  unfold L5.freedS
  split
  · rename_i h
    match s, h with
    | none, _ => rfl
    | some (0, g'), _ => rfl
    | some (k + 1, g'), h => exact absurd h (by simp [L5.dueS])
  · rfl
theorem sec_free (l : List L5.St) (g p : Int) : L5.sec 2 (L5.freeM l g) p = L5.freedS g (L5.sec 2 l p) := by
  have hin : L5.In 2 (L5.freeM l g) p ↔ L5.In 2 l p := by unfold L5.In L5.freeM; rw [List.length_map]
  by_cases hi : L5.In 2 l p
  · have h1 := L5.sec_at (hin.2 hi)
    have h2 := L5.sec_at hi
    unfold L5.freeM at h1
    rw [List.getElem?_map, h2] at h1
    exact (Option.some.inj h1).symm
  · rw [L5.sec_none hi, L5.sec_none (fun h => hi (hin.1 h))]
    rfl
theorem cnt_free (l : List L5.St) (g p : Int) : cntL (L5.freeM l g) p = cntL l p := by
  unfold cntL
  rw [sec_free, cntS_freed]
theorem length_free (l : List L5.St) (g : Int) : (L5.freeM l g).length = l.length := List.length_map ..

/-- the sector that is taken -/
theorem take_at {l : List L5.St} {i : Nat} (h : L5.takeI l = some i) (g : Int) : L5.In 2 l ((2 : Int) + (i : Int)) ∧ L5.sec 2 l ((2 : Int) + (i : Int)) = none ∧ L5.takeM l g = L5.upd 2 l ((2 : Int) + (i : Int)) (some (1, g)) := by
  have h0 := h
  unfold L5.takeI at h
  rw [List.findIdx?_eq_some_iff_getElem] at h
  obtain ⟨hl, hf, _⟩ := h
  have hin : L5.In 2 l ((2 : Int) + (i : Int)) := by unfold L5.In; omega
  refine ⟨hin, ?_, ?_⟩
  · have := L5.sec_of (fr := 2) hl
    rw [show ((2 : Nat) : Int) + (i : Int) = (2 : Int) + (i : Int) from rfl] at this
    rw [this]
    exact (L5.freeS_iff _).1 hf
  · unfold L5.takeM L5.upd
    rw [h0, if_pos hin]
    show l.set i _ = _
    congr 1
    unfold L5.ix
    omega
theorem take_here {l : List L5.St} (h : L5.takeE l = 0) : ∃ i, L5.takeI l = some i ∧ L5.takeN 2 l = (2 : Int) + (i : Int) := by
  unfold L5.takeE at h
  split at h
  · rename_i i hi
    refine ⟨i, hi, ?_⟩
    unfold L5.takeN
    rw [hi]
    rfl
  · exact absurd h (by decide)
/-- what is taken and dropped at once is as it was -/
theorem take_drop {l : List L5.St} (h : L5.takeE l = 0) (g : Int) : L5.dropM 2 (L5.takeM l g) (L5.takeN 2 l) g = l := by
  obtain ⟨i, hi, hn⟩ := take_here h
  obtain ⟨hin, hs, hm⟩ := take_at hi g
  rw [hn, hm]
  unfold L5.dropM
  rw [L5.sec_upd hin]
  have e : L5.dropS g (some (1, g)) = none := by simp [L5.dropS]
  rw [e, L5.upd_in _ (L5.in_upd.2 hin), L5.upd_in _ hin, List.set_set, ← L5.upd_in _ hin]
  have := upd_self l ((2 : Int) + (i : Int))
  rw [hs] at this
  exact this

/-- how many places are held -/
def heldL (l : List L5.St) : Nat := l.countP (fun s => decide (0 < L5.cntS s))
theorem heldL_le (l : List L5.St) : heldL l ≤ l.length := List.countP_le_length
theorem countP_set {α : Type} (q : α → Bool) : ∀ (l : List α) (i : Nat) (x y : α), l[i]? = some x → (l.set i y).countP q + (if q x = true then 1 else 0) = l.countP q + (if q y = true then 1 else 0)
  | [], i, x, y, h => by simp at h
  | a :: r, 0, x, y, h => by
    simp at h
    subst h
    simp only [List.set_cons_zero, List.countP_cons]
    omega
  | a :: r, i + 1, x, y, h => by
    have := countP_set q r i x y (by simpa using h)
    simp only [List.set_cons_succ, List.countP_cons]
    omega
theorem held_upd {l : List L5.St} {p : Int} (hp : L5.In 2 l p) (s : L5.St) : heldL (L5.upd 2 l p s) + (if 0 < cntL l p then 1 else 0) = heldL l + (if 0 < L5.cntS s then 1 else 0) := by
  have := countP_set (fun s => decide (0 < L5.cntS s)) l (L5.ix 2 p) (L5.sec 2 l p) s (L5.sec_at hp)
  rw [← L5.upd_in s hp] at this
  unfold heldL cntL
  by_cases h1 : 0 < L5.cntS (L5.sec 2 l p) <;> by_cases h2 : 0 < L5.cntS s <;> simp only [h1, h2, decide_true, decide_false, if_true, if_false, Bool.false_eq_true] at this ⊢ <;> omega
theorem held_drop_le (l : List L5.St) (p g : Int) : heldL (L5.dropM 2 l p g) ≤ heldL l := by
  by_cases h0 : cntL l p = 0
  · rw [drop_none l p g h0]
    exact Nat.le_refl _
  · have := held_upd (cnt_in (l := l) (p := p) (by omega)) (L5.dropS g (L5.sec 2 l p))
    rw [if_pos (by omega : 0 < cntL l p)] at this
    unfold L5.dropM
    split at this <;> omega
theorem held_drop_last (l : List L5.St) (p g : Int) (h0 : 0 < cntL l p) (h1 : cntL (L5.dropM 2 l p g) p = 0) : heldL (L5.dropM 2 l p g) < heldL l := by
  have := held_upd (cnt_in h0) (L5.dropS g (L5.sec 2 l p))
  rw [if_pos h0] at this
  have e : L5.cntS (L5.dropS g (L5.sec 2 l p)) = 0 := by
    have h2 := cnt_drop l p p g
    rw [if_pos rfl, h1] at h2
    rw [cntS_drop]
    exact h2.symm
  rw [e, if_neg (by omega)] at this
  unfold L5.dropM
  omega
theorem held_dropH (f : Nat) : ∀ (h : Hp) (p : Int), heldL (dropH f h p).al ≤ heldL h.al := by
  induction f with
  | zero => intro h p; exact Nat.le_refl _
  | succ f ih =>
    intro h p
    have hf : ∀ (ks : List Int) (h : Hp), heldL (ks.foldl (dropH f) h).al ≤ heldL h.al := by
      intro ks
      induction ks with
      | nil => intro h; exact Nat.le_refl _
      | cons k r ihr => intro h; exact Nat.le_trans (ihr _) (ih h k)
    unfold dropH
    split
    · exact Nat.le_refl _
    · split
      · exact held_drop_le _ _ _
      · exact Nat.le_trans (hf _ _) (held_drop_le _ _ _)
end Go.Proofs.YtlmgmdnmghgkbaaGreatDoor

/- Bytes of one's own: a slice that a call makes and appends to, and the text that is made of it. -/
namespace Go.Proofs.YtlmgmdnmghgkbaaGreatDoor.L3
open Go.ChangeShapes Go.WideShapes Go.ChangeAt Go.RowKit

theorem hide {p : Prop} (h : p) : Hid p := h
theorem unhide {p : Prop} (h : Hid p) : p := h
theorem ret_int {k : IntKind} {a b : Int} (h : a = b) : Ending.returned (.int k a) = .returned (.int k b) := by rw [h]

/-- a text's bytes as numbers -/
def bn (s : ByteArray) : List Nat := s.data.toList.map UInt8.toNat
theorem bn_length (s : ByteArray) : (bn s).length = s.size := by
  unfold bn
  rw [List.length_map, Array.length_toList]
  rfl
theorem bn_lt (s : ByteArray) : ∀ b ∈ bn s, b < 256 := by
  intro b hb
  obtain ⟨u, _, rfl⟩ := List.mem_map.1 hb
  exact u.toNat_lt
theorem bn_append (s t : ByteArray) : bn (s ++ t) = bn s ++ bn t := by
  unfold bn
  rw [ByteArray.data_append, Array.toList_append, List.map_append]
theorem bn_inj {s t : ByteArray} (h : bn s = bn t) : s = t := by
  unfold bn at h
  apply ByteArray.ext
  have := (List.map_inj_right (f := UInt8.toNat) (fun a b e => UInt8.toNat_inj.1 e)).1 h
  exact Array.toList_inj.1 this
theorem bn_at (s : ByteArray) (k : Nat) (h : k < s.size) : (bn s)[k]? = some s[k].toNat := by
  simp only [bn, List.getElem?_map]
  rw [List.getElem?_eq_getElem (by rw [Array.length_toList]; exact h)]
  rfl

/-- the text of these bytes -/
def strOf (l : List Nat) : ByteArray := strOfNums (l.map fun n : Nat => (n : Int))
theorem bn_strOf (l : List Nat) (h : ∀ b ∈ l, b < 256) : bn (strOf l) = l := by
  unfold bn strOf
  rw [strOfNums_data, List.map_map, List.map_map]
  refine (List.map_congr_left (g := id) (fun b hb => ?_)).trans (List.map_id l)
  have := h b hb
  simp [Function.comp, Nat.mod_eq_of_lt this]
theorem strOf_size (l : List Nat) : (strOf l).size = l.length := by unfold strOf; rw [strOfNums_size, List.length_map]
theorem strOf_bn (s : ByteArray) : strOf (bn s) = s := bn_inj (bn_strOf _ (bn_lt s))

theorem info5 : (Tryz.prog.info? 5).map (fun i => (i.zero, i.size, i.bytes)) = some (some (.int .u8 0), 1, 1) := by kernel_rfl

def cells (l : List Nat) : List Value := l.map fun n : Nat => Value.int .u8 (n : Int)
theorem cells_length (l : List Nat) : (cells l).length = l.length := by simp [cells]
theorem cells_append (l r : List Nat) : cells (l ++ r) = cells l ++ cells r := by simp [cells]

/-- bytes of one's own: a slice in new memory, which nobody else has -/
def Own (base : Nat) (w : World) (v : Value) (l : List Nat) : Prop := w.ownsRow base 5 1 v l.length (cells l)
theorem below_own {B : Nat} {w wr w1 : World} {v : Value} {l : List Nat} {o : Obj} (hB : B ≤ wr.heap.size) (hb : Below B w wr) (hown : Own B wr v l)
    (hg : (wr.alloc o).grownBy w1 v.ownBlock) : Below B w w1 := by
  refine (hb.alloc hB o).grown hg (by simp; omega) ?_
  intro k hk
  exact (World.ownsRow.lt hown k hk).1

/-- append of one byte to what is one's own, as the walk meets it: the byte stands in a new block -/
theorem app_one {ops : Array Oper} {rest : List Oper} {o : Oper} {a : Act} {Q : Exit → Act → World → Prop} {B : Nat} {w wr : World} {v : Value} {l : List Nat} {b : Nat}
    (hwant : Region.wanted o (yielded ops a.tmps) = true) (s x : Operand) (ho : o.op = .call { callee := .builtin .append, args := #[s, x], argTypes := #[68, 68] })
    (hs : a.eval s = v) (hx : a.eval x = .slice (some ⟨wr.heap.size, 0, none⟩) 1 1) (hB : B ≤ wr.heap.size) (hbel : Below B w wr) (hown : Own B wr v l) (hlen : l.length ≤ 5000)
    (h : ∀ a' cap' w', Own B w' (.slice a' (l.length + 1) cap') (l ++ [b]) → Below B w w' → wpList Tryz.prog ops Q rest (a.put o.dst (.slice a' (l.length + 1) cap')) w') :
    wpList Tryz.prog ops Q (o :: rest) a (wr.alloc (.cells #[.int .u8 (b : Int)] 5)) := by
  obtain ⟨i0, hi, hz0, hz1, hz2⟩ := info_parts info5
  obtain ⟨v', w', hr, ho', hg, _⟩ := run_append_own (P := Tryz.prog) (wr.alloc (.cells #[.int .u8 (b : Int)] 5)) B 68 o.type 5 i0 (.int .u8 0) 1 1 Tryz.underlying68 hi hz0 hz1 hz2 rfl (by decide) v l.length (cells l) (World.ownsRow.alloc hown _) ⟨wr.heap.size, 0, none⟩ 1 1 [.int .u8 (b : Int)] rfl
    (fun j u hj => by
      match j, hj with
      | 0, hj => simp at hj; subst hj; simp [Addr.add])
    (fun u hu => by simp at hu; subst hu; rfl) (by unfold maxLen; omega) (by omega) (by simp; omega)
  have hform : ∃ a' cap', v' = .slice a' (l.length + 1) cap' := by
    rcases ho'.2 with ⟨_, hn⟩ | ⟨g, cap, cur, e, _⟩
    · omega
    · exact ⟨_, _, e⟩
  obtain ⟨a', cap', rfl⟩ := hform
  have ho2 : Own B w' (.slice a' (l.length + 1) cap') (l ++ [b]) := by
    unfold Own
    rw [List.length_append, cells_append]
    exact ho'
  have hb2 : Below B w w' := below_own hB hbel hown hg
  refine BigFrame.wpList_want hwant fun K hK => ?_
  unfold Oper.wp execOp
  simp only [ho, resolve, invoke, builtin, Sem.run_bind, Sem.run_pure, Result.andThen_ok, List.map_toArray, List.map_cons, List.map_nil, hs, hx, hr]
  exact hK _ _ (h a' cap' w' ho2 hb2)

/-- string(b), of what is one's own -/
theorem conv_own {B : Nat} {w : World} {v : Value} {l : List Nat} (h : Own B w v l) : (convert 68 9 v).run Tryz.prog w = .ok (.string (strOf l)) w := by
  have h' := h
  obtain ⟨_, ⟨rfl, hn⟩ | ⟨g, cap, cur, rfl, _⟩⟩ := h
  · obtain rfl := List.length_eq_zero_iff.1 hn
    exact run_convert_bytes_nil w 68 5 Tryz.underlying68 Tryz.underlying5 0 0 9 Tryz.underlying9
  · exact run_convert_bytes_arg w 68 5 Tryz.underlying68 Tryz.underlying5 g 0 l.length cap _ (by simp) (fun i hi => by rw [Nat.zero_add, World.ownsRow.cellAt h' i (by omega)]; simp [cells, List.getElem?_eq_getElem hi]) 9 Tryz.underlying9
/-- string(b), of bytes that lie in a row -/
theorem conv_row (g cap : Nat) (l : List Nat) (w : World) (hc : ∀ i, i < l.length → w.cell? ⟨g, i, none⟩ = some (.int .u8 (l.getD i 0 : Nat))) :
    (convert 68 9 (.slice (some ⟨g, 0, none⟩) l.length cap)).run Tryz.prog w = .ok (.string (strOf l)) w :=
  run_convert_bytes_arg w 68 5 Tryz.underlying68 Tryz.underlying5 g 0 l.length cap _ (by simp) (fun i hi => by rw [Nat.zero_add, hc i hi]; simp [List.getElem?_eq_getElem hi]) 9 Tryz.underlying9
end Go.Proofs.YtlmgmdnmghgkbaaGreatDoor.L3

/- Sectors in a map: what a map of the program holds, sector by sector. -/
namespace Go.Proofs.YtlmgmdnmghgkbaaGreatDoor.L3
open Go.ChangeShapes Go.WideShapes Go.ChangeAt Go.RowKit Go.Maps

/-- how a sector in a map reads -/
def secR : Value → Option (DataW Unit × List MemPlace)
  | .agg cs => match cs.toList with
    | [.string s] => if s.size ≤ maxLen then some (.lit (.string s.data.toList), []) else none
    | _ => none
  | _ => none
theorem secR_mk {s : ByteArray} (h : s.size ≤ maxLen) : secR (.agg #[.string s]) = some (.lit (.string s.data.toList), []) := by
  simp [secR, h]
theorem secR_inv {v : Value} {z : DataW Unit × List MemPlace} (h : secR v = some z) : ∃ s : ByteArray, v = .agg #[.string s] ∧ z = (.lit (.string s.data.toList), []) ∧ s.size ≤ maxLen := by
  unfold secR at h
  split at h
  · rename_i cs
    split at h
    · rename_i s hs
      split at h
      · rename_i hle
        cases h
        refine ⟨s, ?_, rfl, hle⟩
        rw [← Array.toArray_toList (xs := cs), hs]
      · cases h
    · cases h
  · cases h

theorem law3 : Keyed Tryz.prog 3 := int_keyed Tryz.underlying3
theorem zero71 (w : World) : (zeroValue 286).run Tryz.prog w = .ok (.agg #[.string ByteArray.empty]) w := by kernel_rfl
theorem key3 {n : Int} (h0 : 0 ≤ n) (h1 : n < 4096) : keyOf Tryz.prog 3 (.int .i64 n) = some (.int .i64 n) := keyOf_int_mk Tryz.underlying3 (WalkArith.wf_i64 (by omega))

/-- block b is a map of at most k sectors, and holds these -/
def Sec (w : World) (b k : Nat) (f : Nat → Option ByteArray) : Prop :=
  ∃ D, w.ownsMap Tryz.prog 3 secR b k D ∧ ∀ i : Nat, i < 4096 → (Maps.has D (.int .i64 (i : Int)) = (f i).isSome ∧ ∀ s, f i = some s → ∀ z, D.atKey (.int .i64 (i : Int)) z = .lit (.string s.data.toList))

theorem Sec.lt {w : World} {b k : Nat} {f : Nat → Option ByteArray} (h : Sec w b k f) : b < w.heap.size := by
  obtain ⟨D, h, _⟩ := h
  exact h.lt
theorem Sec.mono {w : World} {b k k' : Nat} {f : Nat → Option ByteArray} (h : Sec w b k f) (hk : k ≤ k') : Sec w b k' f := by
  obtain ⟨D, h, r⟩ := h
  exact ⟨D, h.mono hk, r⟩
theorem Sec.same {w w' : World} {b k : Nat} {f : Nat → Option ByteArray} (h : Sec w b k f) (hb : w'.heap[b]? = w.heap[b]?) : Sec w' b k f := by
  obtain ⟨D, ⟨es, clock, h1, r1⟩, r⟩ := h
  exact ⟨D, ⟨es, clock, hb.trans h1, r1⟩, r⟩
theorem Sec.kind {w : World} {b k : Nat} {f : Nat → Option ByteArray} (h : Sec w b k f) : ∃ es clock, w.heap[b]? = some (.map es clock) := by
  obtain ⟨D, ⟨es, clock, h1, _⟩, _⟩ := h
  exact ⟨es, clock, h1⟩
theorem Sec.made (w : World) : Sec (w.alloc (.map #[] 0)) w.heap.size 0 (fun _ => none) :=
  ⟨_, World.ownsMap_made w Tryz.prog 3 secR, fun i _ => ⟨rfl, fun s h => by cases h⟩⟩

theorem data_inj {s t : ByteArray} (h : s.data.toList = t.data.toList) : s = t := ByteArray.ext (Array.toList_inj.1 h)

/-- a sector that is there -/
theorem Sec.look {w : World} {b k : Nat} {f : Nat → Option ByteArray} (h : Sec w b k f) {n : Int} (h0 : 0 ≤ n) (h1 : n < 4096) {s : ByteArray} (hf : f n.toNat = some s) :
    (Instr.lookup 101 (.map (some b)) (.int .i64 n) true).run Tryz.prog w = .ok (.tuple #[.agg #[.string s], .bool true]) w := by
  obtain ⟨D, hown, hr⟩ := h
  obtain ⟨v, ps, hrun, hv⟩ := hown.look_ok law3 Tryz.underlying101 (zero71 w) (secR_mk (s := ByteArray.empty) (by decide)) (key3 h0 h1)
  have e : ((n.toNat : Nat) : Int) = n := Int.toNat_of_nonneg h0
  have h2 := hr n.toNat (by omega)
  rw [e] at h2
  obtain ⟨t, rfl, ht, _⟩ := secR_inv hv
  rw [h2.2 s hf] at ht
  have ht1 : s.data.toList = t.data.toList := congrArg (fun z => match z.1 with | DataW.lit (.string l) => l | _ => []) ht
  rw [hrun, h2.1, hf, data_inj ht1]
  rfl
theorem Sec.look_none {w : World} {b k : Nat} {f : Nat → Option ByteArray} (h : Sec w b k f) {n : Int} (h0 : 0 ≤ n) (h1 : n < 4096) (hf : f n.toNat = none) :
    (Instr.lookup 101 (.map (some b)) (.int .i64 n) true).run Tryz.prog w = .ok (.tuple #[.agg #[.string ByteArray.empty], .bool false]) w := by
  obtain ⟨D, hown, hr⟩ := h
  obtain ⟨v, ps, hrun, hv⟩ := hown.look_ok law3 Tryz.underlying101 (zero71 w) (secR_mk (s := ByteArray.empty) (by decide)) (key3 h0 h1)
  have e : ((n.toNat : Nat) : Int) = n := Int.toNat_of_nonneg h0
  have h2 := hr n.toNat (by omega)
  rw [e, hf] at h2
  have hn : Maps.has D (.int .i64 n) = false := h2.1
  obtain ⟨t, rfl, ht, _⟩ := secR_inv hv
  rw [Maps.atKey_of_not_has hn] at ht
  have ht1 : ByteArray.empty.data.toList = t.data.toList := congrArg (fun z => match z.1 with | DataW.lit (.string l) => l | _ => []) ht
  rw [hrun, hn, ← data_inj ht1]

def put (f : Nat → Option ByteArray) (n : Nat) (s : ByteArray) : Nat → Option ByteArray := fun i => if i = n then some s else f i

theorem Sec.store {w : World} {b k : Nat} {f : Nat → Option ByteArray} (h : Sec w b k f) {n : Int} (h0 : 0 ≤ n) (h1 : n < 4096) (s : ByteArray) (hs : s.size ≤ maxLen) (hk : k < maxLen) :
    ∃ w', (Instr.mapUpdate 101 (.map (some b)) (.int .i64 n) (.agg #[.string s])).run Tryz.prog w = .ok () w' ∧ Sec w' b (k + 1) (put f n.toNat s) ∧ w.grownBy w' (some b) := by
  obtain ⟨D, hown, hr⟩ := h
  obtain ⟨w', hrun, hown', hg⟩ := hown.update law3 Tryz.underlying101 hk (key3 h0 h1) (secR_mk hs)
  refine ⟨w', hrun, ⟨_, hown', fun i hi => ?_⟩, hg⟩
  have e : ((n.toNat : Nat) : Int) = n := Int.toNat_of_nonneg h0
  unfold put
  by_cases hin : i = n.toNat
  · subst hin
    rw [e, if_pos rfl]
    refine ⟨by rw [Maps.has_put_same hown.isMap (law3.key (key3 h0 h1))]; rfl, fun t ht z => ?_⟩
    cases ht
    exact Maps.atKey_put_same hown.isMap (law3.key (key3 h0 h1)) _ _
  · rw [if_neg hin]
    have hne : Lit.int .i64 (i : Int) ≠ Lit.int .i64 n := by
      intro e'
      simp at e'
      omega
    rw [Maps.has_put_other hne]
    refine ⟨(hr i hi).1, fun t ht z => ?_⟩
    rw [Maps.atKey_put_other hne]
    exact (hr i hi).2 t ht z

theorem Sec.clear {w : World} {b k : Nat} {f : Nat → Option ByteArray} (h : Sec w b k f) (ty : TypeId) :
    ∃ w', (Builtin.clear_ #[101] ty #[.map (some b)]).run Tryz.prog w = .ok (.tuple #[]) w' ∧ Sec w' b 0 (fun _ => none) ∧ w.grownBy w' (some b) := by
  obtain ⟨D, ⟨es, clock, hb, F, _⟩, _⟩ := h
  refine ⟨ChangeMaps.setBlock w b (.map #[] clock), ?_, ⟨.map [], ⟨#[], clock, ChangeMaps.heap_setBlock_same hb _, ⟨by simp, ?_, by simp⟩, Nat.le_refl _, rfl⟩, fun i _ => ⟨rfl, fun s h => by cases h⟩⟩, ⟨rfl, rfl, rfl, by simp [ChangeMaps.setBlock], fun i _ hi => ChangeMaps.heap_setBlock_other hb _ (fun e => hi (by rw [e]))⟩⟩
  · simp [Builtin.clear_, run_underlying Tryz.underlying101, MapKept.run_getObj_map hb, MapKept.run_setObj_map _ hb, Result.andThen, ChangeMaps.setBlock]
  · exact MapKept.stamped_empty clock
end Go.Proofs.YtlmgmdnmghgkbaaGreatDoor.L3

/- A map of sectors cloned, and one copied into another. -/
namespace Go.Proofs.YtlmgmdnmghgkbaaGreatDoor.L3
open Go.ChangeShapes Go.WideShapes Go.ChangeAt Go.RowKit Go.Maps

/-- one map's sectors over another's -/
def over (f g : Nat → Option ByteArray) : Nat → Option ByteArray := fun i => match g i with | some s => some s | none => f i

end Go.Proofs.YtlmgmdnmghgkbaaGreatDoor.L3

/- What the copy of a text is: the same bytes (the library's own contract of that function, laid at this program's numbers). -/
namespace Go.Proofs.YtlmgmdnmghgkbaaGreatDoor.L3
open Go.ChangeShapes Go.WideShapes Go.ChangeAt Go.RowKit Go.Shelf

/-- the shelf's numbers, as this program has them -/
def ren : Ren := ⟨fun n => if n = 25 then 211 else n, fun n => if n = 37 then 68 else if n = 47 then 348 else n, fun n => n⟩
theorem lays : LaysPu.n25 Tryz.prog ren where
  mixed := by kernel_rfl
  f25 := by kernel_rfl
  t0 := by kernel_rfl
  a0 := fun _ => by kernel_rfl
  z0 := fun _ => by kernel_rfl
  v0 := fun _ => by kernel_rfl
  i0 := by kernel_rfl
  t3 := by kernel_rfl
  a3 := fun _ => by kernel_rfl
  z3 := fun _ => by kernel_rfl
  v3 := fun _ => by kernel_rfl
  i3 := by kernel_rfl
  t4 := by kernel_rfl
  a4 := fun _ => by kernel_rfl
  z4 := fun _ => by kernel_rfl
  v4 := fun _ => by kernel_rfl
  i4 := by kernel_rfl
  t5 := by kernel_rfl
  a5 := fun _ => by kernel_rfl
  z5 := fun _ => by kernel_rfl
  v5 := fun _ => by kernel_rfl
  i5 := by kernel_rfl
  t9 := by kernel_rfl
  a9 := fun _ => by kernel_rfl
  z9 := fun _ => by kernel_rfl
  v9 := fun _ => by kernel_rfl
  i9 := by kernel_rfl
  t37 := by kernel_rfl
  a37 := fun _ => by kernel_rfl
  z37 := fun _ => by kernel_rfl
  v37 := fun _ => by kernel_rfl
  i37 := by kernel_rfl
  t47 := by kernel_rfl
  a47 := fun _ => by kernel_rfl
  z47 := fun _ => by kernel_rfl
  v47 := fun _ => by kernel_rfl
  i47 := by kernel_rfl

theorem sclone_any (s : ByteArray) (w : World) (hlim : s.size ≤ 1000000) :
    Calls Tryz.prog 211 #[.string s] w fun e w' => e = .returned (.string s) ∧ Below w.heap.size w w' :=
  AnyPu.stringslite_Clone lays s w (by omega)

set_option maxHeartbeats 400000 in
theorem clone_any (s : ByteArray) (w : World) (hlim : s.size ≤ 1000000) :
    Calls Tryz.prog 176 #[.string s] w fun e w' => e = .returned (.string s) ∧ Below w.heap.size w w' := by
  go_enter Tryz.func176, Tryz.ntmps176
  go_wp2_with (go_at_call 211; refine (sclone_any _ _ hlim).mono ?_; rintro e w' ⟨rfl, hb⟩)
  go_ret
  exact ⟨rfl, hb⟩
end Go.Proofs.YtlmgmdnmghgkbaaGreatDoor.L3

/- Zeros by repetition: the library's own contract of that function, laid at this program's numbers. -/
namespace Go.Proofs.YtlmgmdnmghgkbaaGreatDoor.L3
open Go.Shelf
def lays105_ren : Go.Shelf.Ren := ⟨fun | 105 => 170 | 212 => 204 | 99 => 205 | 165 => 206 | 166 => 207 | 170 => 208 | 169 => 209 | 263 => 229 | 264 => 230 | 206 => 231 | 240 => 232 | 241 => 233 | 276 => 253 | 277 => 254 | n => n, fun | 9 => 9 | 3 => 3 | 4 => 4 | 20 => 20 | 0 => 0 | 46 => 189 | 109 => 316 | 5 => 5 | 72 => 320 | 76 => 323 | 51 => 240 | 146 => 344 | 53 => 239 | 148 => 346 | 70 => 318 | 37 => 68 | 75 => 322 | 127 => 348 | 164 => 363 | 80 => 106 | n => n, fun | n => n⟩
theorem lays105 : Go.Proofs.Lays.n105 Tryz.prog lays105_ren := {
  mixed := by kernel_rfl
  f99 := Tryz.func205.trans (congrArg some (by kernel_rfl))
  f105 := Tryz.func170.trans (congrArg some (by kernel_rfl))
  f165 := Tryz.func206.trans (congrArg some (by kernel_rfl))
  f166 := Tryz.func207.trans (congrArg some (by kernel_rfl))
  f169 := Tryz.func209.trans (congrArg some (by kernel_rfl))
  f170 := Tryz.func208.trans (congrArg some (by kernel_rfl))
  f206 := Tryz.func231.trans (congrArg some (by kernel_rfl))
  f212 := Tryz.func204.trans (congrArg some (by kernel_rfl))
  f240 := Tryz.func232.trans (congrArg some (by kernel_rfl))
  f241 := Tryz.func233.trans (congrArg some (by kernel_rfl))
  f263 := Tryz.func229.trans (congrArg some (by kernel_rfl))
  f264 := Tryz.func230.trans (congrArg some (by kernel_rfl))
  f276 := Tryz.func253.trans (congrArg some (by kernel_rfl))
  f277 := Tryz.func254.trans (congrArg some (by kernel_rfl))
  t0 := Tryz.underlying0
  a0 := Tryz.isAgg0
  z0 := Tryz.sizeOf0
  v0 := Tryz.zeroValue0
  t3 := Tryz.underlying3
  a3 := Tryz.isAgg3
  z3 := Tryz.sizeOf3
  v3 := Tryz.zeroValue3
  t4 := Tryz.underlying4
  a4 := Tryz.isAgg4
  z4 := Tryz.sizeOf4
  v4 := Tryz.zeroValue4
  t5 := Tryz.underlying5
  a5 := Tryz.isAgg5
  z5 := Tryz.sizeOf5
  v5 := Tryz.zeroValue5
  t9 := Tryz.underlying9
  a9 := Tryz.isAgg9
  z9 := Tryz.sizeOf9
  v9 := Tryz.zeroValue9
  t20 := Tryz.underlying20
  a20 := Tryz.isAgg20
  z20 := Tryz.sizeOf20
  v20 := Tryz.zeroValue20
  t37 := Tryz.underlying68
  a37 := Tryz.isAgg68
  z37 := Tryz.sizeOf68
  v37 := Tryz.zeroValue68
  t46 := Tryz.underlying189
  a46 := Tryz.isAgg189
  z46 := Tryz.sizeOf189
  v46 := Tryz.zeroValue189
  t51 := Tryz.underlying240
  a51 := Tryz.isAgg240
  z51 := Tryz.sizeOf240
  v51 := Tryz.zeroValue240
  t53 := Tryz.underlying239
  a53 := Tryz.isAgg239
  z53 := Tryz.sizeOf239
  v53 := Tryz.zeroValue239
  t70 := Tryz.underlying318
  a70 := Tryz.isAgg318
  z70 := Tryz.sizeOf318
  v70 := Tryz.zeroValue318
  t72 := Tryz.underlying320
  a72 := Tryz.isAgg320
  z72 := Tryz.sizeOf320
  v72 := Tryz.zeroValue320
  t75 := Tryz.underlying322
  a75 := Tryz.isAgg322
  z75 := Tryz.sizeOf322
  v75 := Tryz.zeroValue322
  t76 := Tryz.underlying323
  a76 := Tryz.isAgg323
  z76 := Tryz.sizeOf323
  v76 := Tryz.zeroValue323
  t109 := Tryz.underlying316
  a109 := Tryz.isAgg316
  z109 := Tryz.sizeOf316
  v109 := Tryz.zeroValue316
  t127 := Tryz.underlying348
  a127 := Tryz.isAgg348
  z127 := Tryz.sizeOf348
  v127 := Tryz.zeroValue348
  t146 := Tryz.underlying344
  a146 := Tryz.isAgg344
  z146 := Tryz.sizeOf344
  v146 := Tryz.zeroValue344
  t148 := Tryz.underlying346
  a148 := Tryz.isAgg346
  z148 := Tryz.sizeOf346
  v148 := Tryz.zeroValue346
  t164 := Tryz.underlying363
  a164 := Tryz.isAgg363
  z164 := Tryz.sizeOf363
  v164 := Tryz.zeroValue363 }
theorem builderExtra : Builder.Extra Tryz.prog lays105_ren := {
  sizeBuilder := by kernel_rfl
  liesBuilder := by kernel_rfl
  t5 := Tryz.underlying5
  a5 := Tryz.isAgg5
  z5 := Tryz.sizeOf5
  v5 := Tryz.zeroValue5
  infoByte := by kernel_rfl
  cellsByte := by kernel_rfl
  sizeByte := by kernel_rfl
  neB5 := by decide }
open Go.RowKit Go.Lib in
/-- THE MAIN CASE: at least two copies of a string that is not empty. (LAID: no walk: one application.) -/
theorem repeat_main (s : ByteArray) (c : Nat) (w : World) (hc2 : 2 ≤ c) (hc : c ≤ 9223372036854775807) (hlen : s.size * c ≤ 140737488355328) (h0 : 0 < s.size) :
    Calls Tryz.prog 170 #[.string s, .int .i64 c] w fun e w' => e = .returned (.string ⟨(Lib.repeatL s.data.toList c).toArray⟩) ∧ Below w.heap.size w w' := Any.strings_Repeat_main lays105 builderExtra s c w hc2 hc hlen h0

/-- a sector's zeros -/
def zeros : ByteArray := ⟨(List.replicate 1024 (0 : UInt8)).toArray⟩
theorem zeros_size : zeros.size = 1024 := by
  show (List.replicate 1024 (0 : UInt8)).toArray.size = 1024
  rw [List.size_toArray, List.length_replicate]

theorem repeatL_one (x : UInt8) : ∀ n, Lib.repeatL [x] n = List.replicate n x
  | 0 => rfl
  | n + 1 => by
    unfold Lib.repeatL
    rw [repeatL_one x n]
    rfl

open Go.RowKit in
theorem zeros_any (w : World) : Calls Tryz.prog 170 #[.string ⟨#[0]⟩, .int .i64 1024] w fun e w' => e = .returned (.string zeros) ∧ Below w.heap.size w w' := by
  refine (repeat_main ⟨#[0]⟩ 1024 w (by omega) (by omega) (by decide) (by decide)).mono ?_
  rintro e w' ⟨rfl, hb⟩
  refine ⟨?_, hb⟩
  show Ending.returned (.string ⟨(Lib.repeatL [0] 1024).toArray⟩) = _
  rw [repeatL_one]
  rfl
end Go.Proofs.YtlmgmdnmghgkbaaGreatDoor.L3
