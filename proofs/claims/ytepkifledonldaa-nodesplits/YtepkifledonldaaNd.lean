/- Nodes: what they are, which are right, their bytes (plain mathematics); how they stand in memory. -/
import Derived.Test.YtepkifledonldaaKit
namespace Go.Proofs.Ytepkifledonldaa
open Go.ChangeShapes Go.WideShapes Go.ChangeAt Go.RowKit

abbrev It := ByteArray × ByteArray
abbrev Kd := ByteArray × Int
structure Nd where
  leaf : Bool
  its : List It
  kds : List Kd

def less (a b : ByteArray) : Bool := Op.bytesLess a.toList b.toList
theorem less_flip (a b : List UInt8) : (Op.bytesLess a b || a == b) = !(Op.bytesLess b a) := by
  induction a generalizing b with
  | nil => cases b <;> rfl
  | cons x s ih =>
    cases b with
    | nil => rfl
    | cons y t =>
      simp only [Op.bytesLess]
      have h := ih t
      rcases (show x < y ∨ x = y ∨ y < x by rw [UInt8.lt_iff_toNat_lt, UInt8.lt_iff_toNat_lt, ← UInt8.toNat_inj]; omega) with hxy | hxy | hxy
      · have h1 : ¬ y < x := fun h => absurd (UInt8.lt_trans hxy h) (UInt8.lt_irrefl _)
        have h2 : (y == x) = false := beq_eq_false_iff_ne.2 (fun e => by subst e; exact UInt8.lt_irrefl _ hxy)
        simp [hxy, h1, h2]
      · subst hxy
        simpa [UInt8.lt_irrefl] using h
      · have h1 : ¬ x < y := fun h => absurd (UInt8.lt_trans hxy h) (UInt8.lt_irrefl _)
        have h2 : (x == y) = false := beq_eq_false_iff_ne.2 (fun e => by subst e; exact UInt8.lt_irrefl _ hxy)
        simp [hxy, h1, h2]
theorem leq_flip (a b : ByteArray) : (Op.bytesLess a.toList b.toList || a.toList == b.toList) = !(less b a) := less_flip _ _

def mayI (x : It) : Bool := decide (0 < x.1.size) && decide (x.1.size ≤ 272) && decide (x.2.size ≤ 160)
def mayK (x : Kd) : Bool := decide (x.1.size ≤ 272) && decide (2 ≤ x.2) && decide (x.2 < 4096)
/-- all of them may be, and the keys rise from one on -/
def rise {β : Type} (may : ByteArray × β → Bool) : Option ByteArray → List (ByteArray × β) → Bool
  | _, [] => true
  | none, x :: t => may x && rise may (some x.1) t
  | some q, x :: t => may x && less q x.1 && rise may (some x.1) t
def before {β : Type} (l : List (ByteArray × β)) : Nat → Option ByteArray
  | 0 => none
  | k + 1 => (l[k]?).map (fun x => x.1)
/-- up to here all is well: the rest decides -/
def Upto {β : Type} (may : ByteArray × β → Bool) (l : List (ByteArray × β)) (k : Nat) : Prop := rise may none l = rise may (before l k) (l.drop k)
theorem drop_get {α : Type} {l : List α} {k : Nat} {x : α} (h : l[k]? = some x) : l.drop k = x :: l.drop (k + 1) := by
  obtain ⟨hk, rfl⟩ := List.getElem?_eq_some_iff.1 h
  exact List.drop_eq_getElem_cons hk
theorem Upto.start {β : Type} (may : ByteArray × β → Bool) (l : List (ByteArray × β)) : Upto may l 0 := rfl
theorem Upto.bad {β : Type} {may : ByteArray × β → Bool} {l : List (ByteArray × β)} {k : Nat} {x : ByteArray × β} (h : Upto may l k) (hx : l[k]? = some x) (hm : may x = false) : rise may none l = false := by
  rw [h, drop_get hx]
  cases before l k <;> simp [rise, hm]
theorem Upto.first {β : Type} {may : ByteArray × β → Bool} {l : List (ByteArray × β)} {x : ByteArray × β} (h : Upto may l 0) (hx : l[0]? = some x) (hm : may x = true) : Upto may l 1 := by
  unfold Upto at *
  rw [h, drop_get hx]
  simp [rise, hm, before, hx]
theorem Upto.falls {β : Type} {may : ByteArray × β → Bool} {l : List (ByteArray × β)} {k : Nat} {x y : ByteArray × β} (h : Upto may l (k + 1)) (hx : l[k + 1]? = some x) (hy : l[k]? = some y) (hl : less y.1 x.1 = false) : rise may none l = false := by
  rw [h, drop_get hx]
  simp [rise, before, hy, hl]
theorem Upto.next {β : Type} {may : ByteArray × β → Bool} {l : List (ByteArray × β)} {k : Nat} {x y : ByteArray × β} (h : Upto may l (k + 1)) (hx : l[k + 1]? = some x) (hy : l[k]? = some y) (hm : may x = true) (hl : less y.1 x.1 = true) : Upto may l (k + 2) := by
  unfold Upto at *
  rw [h, drop_get hx]
  simp [rise, before, hy, hx, hl, hm]
theorem Upto.done {β : Type} {may : ByteArray × β → Bool} {l : List (ByteArray × β)} (h : Upto may l l.length) : rise may none l = true := by
  rw [h, List.drop_length]
  cases before l l.length <;> rfl

def rightB (n : Nd) : Bool := if n.leaf then n.kds.isEmpty && !n.its.isEmpty && rise mayI none n.its else n.its.isEmpty && !n.kds.isEmpty && rise mayK none n.kds

def txL (s : ByteArray) : List Nat := Pk.shL s.size ++ bn s
def itL (x : It) : List Nat := txL x.1 ++ txL x.2
def kdL (x : Kd) : List Nat := txL x.1 ++ Pk.shL x.2.toNat
def ndL (n : Nd) : List Nat := if n.leaf then 1 :: (Pk.shL n.its.length ++ n.its.flatMap itL) else 2 :: (Pk.shL n.kds.length ++ n.kds.flatMap kdL)
def sizeN (n : Nd) : Nat := if rightB n then (ndL n).length else 0
def checkN (n : Nd) : Nat := if rightB n then (if 1007 < (ndL n).length then 61 else 0) else 60
def encodeN (n : Nd) : ByteArray × Nat := if checkN n = 0 then (strOf (ndL n), 0) else (⟨#[]⟩, checkN n)

theorem txL_lt (s : ByteArray) : ∀ b ∈ txL s, b < 256 := by
  intro b hb
  rcases List.mem_append.1 hb with h | h
  · exact Pk.shL_lt _ b h
  · exact bn_lt _ b h
theorem itL_lt (x : It) : ∀ b ∈ itL x, b < 256 := by
  intro b hb
  rcases List.mem_append.1 hb with h | h
  · exact txL_lt _ b h
  · exact txL_lt _ b h
theorem kdL_lt (x : Kd) : ∀ b ∈ kdL x, b < 256 := by
  intro b hb
  rcases List.mem_append.1 hb with h | h
  · exact txL_lt _ b h
  · exact Pk.shL_lt _ b h
theorem flat_lt {α : Type} {f : α → List Nat} (hf : ∀ x, ∀ b ∈ f x, b < 256) (l : List α) : ∀ b ∈ l.flatMap f, b < 256 := by
  intro b hb
  obtain ⟨x, _, h⟩ := List.mem_flatMap.1 hb
  exact hf x b h
theorem ndL_lt (n : Nd) : ∀ b ∈ ndL n, b < 256 := by
  intro b hb
  unfold ndL at hb
  split at hb
  · rcases List.mem_cons.1 hb with h | h
    · omega
    · rcases List.mem_append.1 h with h | h
      · exact Pk.shL_lt _ b h
      · exact flat_lt itL_lt _ b h
  · rcases List.mem_cons.1 hb with h | h
    · omega
    · rcases List.mem_append.1 h with h | h
      · exact Pk.shL_lt _ b h
      · exact flat_lt kdL_lt _ b h

theorem strOf_append (a b : List Nat) : strOf (a ++ b) = strOf a ++ strOf b := by
  apply ByteArray.ext
  unfold strOf
  rw [ByteArray.data_append]
  apply Array.toList_inj.1
  rw [Array.toList_append, strOfNums_data, strOfNums_data, strOfNums_data]
  simp
theorem strOf_txL (s : ByteArray) : strOf (Pk.shL s.size) ++ s = strOf (txL s) := by
  unfold txL
  rw [strOf_append, strOf_bn]
theorem txL_length (s : ByteArray) : (txL s).length ≤ 10 + s.size := by
  unfold txL
  rw [List.length_append, bn_length]
  have := Pk.shL_le s.size
  omega
theorem txL_pos (s : ByteArray) : 0 < (txL s).length := by
  unfold txL
  rw [List.length_append]
  have := Pk.shL_pos s.size
  omega

/-- entries in a row, two cells each -/
def RowAt {β : Type} (sv : β → Value) (w : World) (b off : Nat) (l : List (ByteArray × β)) : Prop :=
  ∀ i x, l[i]? = some x → w.cell? ⟨b, off + i * 2, none⟩ = some (.string x.1) ∧ w.cell? ⟨b, off + i * 2 + 1, none⟩ = some (sv x.2)
def Row {β : Type} (sv : β → Value) (w : World) (a : Option Addr) (l : List (ByteArray × β)) : Prop := l = [] ∨ ∃ b off, a = some ⟨b, off, none⟩ ∧ RowAt sv w b off l
abbrev kv (n : Int) : Value := .int .i64 n
theorem RowAt.grow {β : Type} {sv : β → Value} {w w' : World} {b off : Nat} {l : List (ByteArray × β)} (h : RowAt sv w b off l) (hb : Below w.heap.size w w') : RowAt sv w' b off l := by
  intro i x hx
  obtain ⟨c0, c1⟩ := h i x hx
  exact ⟨(hb.cell (World.block_lt_of_cell? _ _ c0)).trans c0, (hb.cell (World.block_lt_of_cell? _ _ c1)).trans c1⟩
theorem Row.grow {β : Type} {sv : β → Value} {w w' : World} {a : Option Addr} {l : List (ByteArray × β)} (h : Row sv w a l) (hb : Below w.heap.size w w') : Row sv w' a l :=
  h.imp id (fun ⟨b, off, e, hh⟩ => ⟨b, off, e, hh.grow hb⟩)
theorem Row.at {β : Type} {sv : β → Value} {w : World} {a : Option Addr} {l : List (ByteArray × β)} (h : Row sv w a l) {k : Nat} (hk : k < l.length) : ∃ b off, a = some ⟨b, off, none⟩ ∧ RowAt sv w b off l := by
  rcases h with rfl | h
  · simp at hk
  · exact h
theorem get_some {α : Type} {l : List α} {k : Nat} (hk : k < l.length) : ∃ x, l[k]? = some x := ⟨l[k], List.getElem?_eq_getElem hk⟩
/-- a node in memory -/
def Has (w : World) (n : Nd) (ai ak : Option Addr) : Prop := Row Value.string w ai n.its ∧ Row kv w ak n.kds
theorem Has.grow {w w' : World} {n : Nd} {ai ak : Option Addr} (h : Has w n ai ak) (hb : Below w.heap.size w w') : Has w' n ai ak := ⟨h.1.grow hb, h.2.grow hb⟩
theorem cell_keep {w w' : World} {p : Addr} {v : Value} (h : w.cell? p = some v) (hb : Below w.heap.size w w') : w'.cell? p = some v := (hb.cell (World.block_lt_of_cell? _ _ h)).trans h
theorem below_then {W w1 w2 : World} (h : Below W.heap.size W w1) (k : Below w1.heap.size w1 w2) : Below W.heap.size W w2 := h.trans (k.mono h.size)
theorem below_alloc (w : World) (o : Obj) : Below w.heap.size w (w.alloc o) := (Below.refl _ _).alloc (Nat.le_refl _) _
theorem below_drew (w : World) : Below w.heap.size w w.drew := (Below.refl _ _).drew
end Go.Proofs.Ytepkifledonldaa
