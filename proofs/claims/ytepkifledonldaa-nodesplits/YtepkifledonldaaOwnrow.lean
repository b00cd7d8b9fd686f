/- Entries in a row of one's own. -/
import Derived.Test.YtepkifledonldaaReadone
import Derived.Laws.OwnMore
namespace Go.Proofs.Ytepkifledonldaa
open Go.ChangeShapes Go.WideShapes Go.ChangeAt Go.RowKit

def pairs {β : Type} (sv : β → Value) (l : List (ByteArray × β)) : List Value := l.flatMap fun x => [Value.string x.1, sv x.2]
theorem pairs_length {β : Type} (sv : β → Value) (l : List (ByteArray × β)) : (pairs sv l).length = l.length * 2 := by
  induction l with
  | nil => rfl
  | cons x t ih =>
    have e : pairs sv (x :: t) = [Value.string x.1, sv x.2] ++ pairs sv t := rfl
    rw [e, List.length_append, ih, List.length_cons]
    simp
    omega
theorem pairs_append {β : Type} (sv : β → Value) (l r : List (ByteArray × β)) : pairs sv (l ++ r) = pairs sv l ++ pairs sv r := List.flatMap_append
theorem pairs_get {β : Type} (sv : β → Value) (l : List (ByteArray × β)) (i : Nat) (x : ByteArray × β) (h : l[i]? = some x) : (pairs sv l)[i * 2]? = some (.string x.1) ∧ (pairs sv l)[i * 2 + 1]? = some (sv x.2) := by
  induction l generalizing i with
  | nil => simp at h
  | cons y t ih =>
    have e : pairs sv (y :: t) = Value.string y.1 :: sv y.2 :: pairs sv t := rfl
    cases i with
    | zero =>
      simp at h
      subst h
      rw [e]
      exact ⟨rfl, rfl⟩
    | succ i =>
      have := ih i (by simpa using h)
      rw [e]
      have e1 : (i + 1) * 2 = i * 2 + 1 + 1 := by omega
      rw [e1]
      simpa using this
/-- entries of type T in a row of one's own -/
def OwnE {β : Type} (sv : β → Value) (T : TypeId) (B : Nat) (w : World) (v : Value) (l : List (ByteArray × β)) : Prop := w.ownsRow B T 2 v l.length (pairs sv l)
theorem OwnE.nil {β : Type} (sv : β → Value) (T : TypeId) (B : Nat) (w : World) : OwnE sv T B w (.slice none 0 0) [] := World.ownsRow_nil _ _ _ _
theorem OwnE.row {β : Type} {sv : β → Value} {T : TypeId} {B : Nat} {w : World} {a : Option Addr} {n cap : Nat} {l : List (ByteArray × β)} (h : OwnE sv T B w (.slice a n cap) l) : Row sv w a l := by
  have h' := h
  rcases h.2 with ⟨_, hn⟩ | ⟨g, cap', cur, e, _⟩
  · exact .inl (List.length_eq_zero_iff.1 hn)
  · injection e with e1 e2 e3
    subst e1 e2 e3
    refine .inr ⟨g, 0, rfl, fun i x hx => ?_⟩
    have hi : i < l.length := (List.getElem?_eq_some_iff.1 hx).1
    obtain ⟨p0, p1⟩ := pairs_get sv l i x hx
    rw [Nat.zero_add]
    exact ⟨(World.ownsRow.cellAt h' (i * 2) (by omega)).trans p0, (World.ownsRow.cellAt h' (i * 2 + 1) (by omega)).trans p1⟩
theorem OwnE.form {β : Type} {sv : β → Value} {T : TypeId} {B : Nat} {w : World} {v : Value} {l : List (ByteArray × β)} (h : OwnE sv T B w v l) : ∃ a cap, v = .slice a l.length cap := ownsRow_form h
theorem OwnE.below {β : Type} {sv : β → Value} {T : TypeId} {B : Nat} {w w' : World} {v : Value} {l : List (ByteArray × β)} (h : OwnE sv T B w v l) (hb : Below w.heap.size w w') : OwnE sv T B w' v l :=
  ownsRow_same h (fun g hg => hb.block g (World.ownsRow.lt h g hg).2)
theorem OwnE.base {β : Type} {sv : β → Value} {T : TypeId} {B B' : Nat} {w : World} {v : Value} {l : List (ByteArray × β)} (h : OwnE sv T B w v l) (hB : B' ≤ B) : OwnE sv T B' w v l := ownsRow_base h hB
theorem OwnE.snoc {β : Type} {sv : β → Value} {T : TypeId} {B : Nat} {w : World} {v : Value} {l : List (ByteArray × β)} {x : ByteArray × β} (h : w.ownsRow B T 2 v (l.length + 1) (pairs sv l ++ [.string x.1, sv x.2])) : OwnE sv T B w v (l ++ [x]) := by
  unfold OwnE
  rw [List.length_append, pairs_append]
  exact h
/-- a row isn't the block of another kind -/
theorem OwnE.other {β : Type} {sv : β → Value} {T : TypeId} {B : Nat} {w : World} {v : Value} {l : List (ByteArray × β)} (h : OwnE sv T B w v l) {r : Nat} {cs : Array Value} {t : TypeId} (hr : w.heap[r]? = some (.cells cs t (0, 0))) (ht : T ≠ t) : v.ownBlock ≠ some r := by
  intro e
  obtain ⟨cur, h0⟩ := ownsRow_kind h e
  rw [hr] at h0
  simp at h0
  exact ht h0.2.symm
theorem OwnE.told {β : Type} {sv : β → Value} {T : TypeId} (hT : T ≠ 89) {B : Nat} {w w' : World} {v : Value} {l : List (ByteArray × β)} {r e e' : Nat} {L L' : ByteArray} (h : OwnE sv T B w v l) (hr : Rd w r L e) (ht : Told w w' r L' e') : OwnE sv T B w' v l :=
  World.ownsRow.kept h ht.1 (.inr (h.other hr hT))
/-- behind an append to a row of one's own the reader is as it was -/
theorem Told.app {β : Type} {sv : β → Value} {T : TypeId} (hT : T ≠ 89) {B : Nat} {w w1 w2 : World} {v : Value} {l : List (ByteArray × β)} {r e : Nat} {L : ByteArray} (h : Told w w1 r L e) (ho : OwnE sv T B w1 v l) (hB : w.heap.size ≤ B) (hg : w1.grownBy w2 v.ownBlock) : Told w w2 r L e := by
  have hn := ho.other h.2 hT
  have hr := h.2.lt
  refine ⟨⟨hg.os.trans h.1.os, hg.tape.trans h.1.tape, hg.output.trans h.1.output, Nat.le_trans h.1.size hg.size, fun k hk hne => ?_⟩, (hg.block r hr hn.symm).trans h.2⟩
  refine (hg.block k (Nat.lt_of_lt_of_le hk h.1.size) (fun e => ?_)).trans (h.1.block k hk hne)
  have := (World.ownsRow.lt ho k e.symm).1
  omega
/-- the reader as the document has it -/
theorem pair_one {x : ByteArray} {u : Value} (hu : u.oneCell' = true) : ∀ y ∈ [Value.string x, u], y.oneCell' = true := by
  intro y hy
  simp at hy
  rcases hy with rfl | rfl
  · rfl
  · exact hu

/-- so many entries, one behind the other, or till the error -/
def listR {α : Type} (f : ByteArray → Nat → α × ByteArray × Nat) : Nat → ByteArray → Nat → List α × ByteArray × Nat
  | 0, L, e => ([], L, e)
  | c + 1, L, e => if e ≠ 0 then ([], L, e) else ((f L e).1 :: (listR f c (f L e).2.1 (f L e).2.2).1, (listR f c (f L e).2.1 (f L e).2.2).2)
theorem listR_err {α : Type} (f : ByteArray → Nat → α × ByteArray × Nat) (c : Nat) (L : ByteArray) (e : Nat) (h : e ≠ 0) : listR f c L e = ([], L, e) := by
  cases c with
  | zero => rfl
  | succ c => rw [listR, if_pos h]
theorem listR_next {α : Type} (f : ByteArray → Nat → α × ByteArray × Nat) (c : Nat) (L : ByteArray) : listR f (c + 1) L 0 = ((f L 0).1 :: (listR f c (f L 0).2.1 (f L 0).2.2).1, (listR f c (f L 0).2.1 (f L 0).2.2).2) := by
  rw [listR, if_neg (by simp)]
/-- where the loop stands: what was read, how many are still to come, what is left -/
structure Lat {α : Type} (f : ByteArray → Nat → α × ByteArray × Nat) (C : Nat) (L0 : ByteArray) (e0 : Nat) (pre : List α) (c : Nat) (L : ByteArray) (e : Nat) : Prop where
  same : listR f C L0 e0 = (pre ++ (listR f c L e).1, (listR f c L e).2)
  less : L.size ≤ L0.size
  many : e = 0 → pre.length + L.size ≤ L0.size
theorem Lat.start {α : Type} (f : ByteArray → Nat → α × ByteArray × Nat) (C : Nat) (L0 : ByteArray) (e0 : Nat) : Lat f C L0 e0 [] C L0 e0 := ⟨rfl, Nat.le_refl _, fun _ => by simp⟩
theorem Lat.next {α : Type} {f : ByteArray → Nat → α × ByteArray × Nat} (hf : ∀ L e, (f L e).2.1.size ≤ L.size) (hf0 : ∀ L, (f L 0).2.2 = 0 → (f L 0).2.1.size + 1 ≤ L.size) {C : Nat} {L0 : ByteArray} {e0 : Nat} {pre : List α} {c : Nat} {L : ByteArray} (h : Lat f C L0 e0 pre (c + 1) L 0) :
    Lat f C L0 e0 (pre ++ [(f L 0).1]) c (f L 0).2.1 (f L 0).2.2 := by
  refine ⟨?_, Nat.le_trans (hf L 0) h.less, fun he => ?_⟩
  · rw [h.same, listR_next]
    simp
  · have h1 := h.many rfl
    have h2 := hf0 L he
    rw [List.length_append]
    show pre.length + 1 + _ ≤ _
    omega
theorem Lat.done {α : Type} {f : ByteArray → Nat → α × ByteArray × Nat} {C : Nat} {L0 : ByteArray} {e0 : Nat} {pre : List α} {L : ByteArray} {e : Nat} (h : Lat f C L0 e0 pre 0 L e) : listR f C L0 e0 = (pre, L, e) := by
  rw [h.same]
  simp [listR]
theorem Lat.err {α : Type} {f : ByteArray → Nat → α × ByteArray × Nat} {C : Nat} {L0 : ByteArray} {e0 : Nat} {pre : List α} {c : Nat} {L : ByteArray} {e : Nat} (h : Lat f C L0 e0 pre c L e) (he : e ≠ 0) : listR f C L0 e0 = (pre, L, e) := by
  rw [h.same, listR_err f c L e he]
  simp

theorem textR_lt (L : ByteArray) (most : Int) (h : (textR L 0 most).2.2 = 0) : (textR L 0 most).2.1.size + 1 ≤ L.size := by
  unfold textR at *
  rw [if_neg (by simp)] at h ⊢
  rcases scan_cases L with ⟨n, k, hsc, _, h0, _, hks, _, _⟩ | ⟨er, hsc, h0, _, _⟩
  · by_cases h1 : most < 0 ∨ most < (n : Int)
    · rw [textOf_long hsc h1] at h; simp at h
    · by_cases h2 : L.size - k < n
      · rw [textOf_short hsc h1 h2] at h; simp at h
      · rw [textOf_ok hsc h1 h2]
        show (L.extract (k + n) L.size).size + 1 ≤ _
        rw [ByteArray.size_extract]
        omega
  · rw [textOf_bad most hsc h0] at h
    exact absurd h h0
theorem textR_keeps (L : ByteArray) (e : Nat) (most : Int) (h : e ≠ 0) : textR L e most = (⟨#[]⟩, L, e) := by unfold textR; rw [if_pos h]
theorem shortR_keeps (L : ByteArray) (e : Nat) (h : e ≠ 0) : shortR L e = (0, L, e) := by unfold shortR; rw [if_pos h]
theorem itemR_le (L : ByteArray) (e : Nat) : (itemR L e).2.1.size ≤ L.size := Nat.le_trans (textR_le _ _ _) (textR_le _ _ _)
theorem kidR_le (L : ByteArray) (e : Nat) : (kidR L e).2.1.size ≤ L.size := Nat.le_trans (shortR_le _ _) (textR_le _ _ _)
theorem itemR_ok {L : ByteArray} (h : (itemR L 0).2.2 = 0) : (textR L 0 272).2.2 = 0 := by
  by_cases h0 : (textR L 0 272).2.2 = 0
  · exact h0
  · have e : (itemR L 0).2.2 = (textR (textR L 0 272).2.1 (textR L 0 272).2.2 160).2.2 := rfl
    rw [e, textR_keeps _ _ _ h0] at h
    exact absurd h h0
theorem kidR_ok {L : ByteArray} (h : (kidR L 0).2.2 = 0) : (textR L 0 272).2.2 = 0 := by
  by_cases h0 : (textR L 0 272).2.2 = 0
  · exact h0
  · have e : (kidR L 0).2.2 = (shortR (textR L 0 272).2.1 (textR L 0 272).2.2).2.2 := rfl
    rw [e, shortR_keeps _ _ h0] at h
    exact absurd h h0
theorem itemR_lt (L : ByteArray) (h : (itemR L 0).2.2 = 0) : (itemR L 0).2.1.size + 1 ≤ L.size := by
  have h0 := itemR_ok h
  have h1 := textR_lt L 272 h0
  have h2 : (itemR L 0).2.1.size ≤ (textR L 0 272).2.1.size := textR_le _ _ _
  omega
theorem kidR_lt (L : ByteArray) (h : (kidR L 0).2.2 = 0) : (kidR L 0).2.1.size + 1 ≤ L.size := by
  have h0 := kidR_ok h
  have h1 := textR_lt L 272 h0
  have h2 : (kidR L 0).2.1.size ≤ (textR L 0 272).2.1.size := shortR_le _ _
  omega
end Go.Proofs.Ytepkifledonldaa
