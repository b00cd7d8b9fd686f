/- Plain mathematics of a disk: what the document says, as functions; nothing of any program. -/
namespace Go.Proofs.Ytmkmebogfcbphaa

/-- a disk as the document has it: what was flushed, what is open, how many calls the power has (below 0: it stays), is it gone? -/
structure Dk where
  old : List ByteArray
  op : List (Nat × ByteArray)
  left : Int
  gone : Bool

/-- the last open write that names this sector -/
def lastW (op : List (Nat × ByteArray)) (i : Nat) : Option ByteArray := op.foldl (fun acc p => if p.1 = i then some p.2 else acc) none

theorem lastW_snoc (op : List (Nat × ByteArray)) (p : Nat × ByteArray) (i : Nat) : lastW (op ++ [p]) i = if p.1 = i then some p.2 else lastW op i := by
  unfold lastW
  rw [List.foldl_append]
  rfl
theorem lastW_nil (i : Nat) : lastW [] i = none := rfl

def flushL (old : List ByteArray) (op : List (Nat × ByteArray)) : List ByteArray := op.foldl (fun l p => l.set p.1 p.2) old
theorem flushL_snoc (old : List ByteArray) (op : List (Nat × ByteArray)) (p : Nat × ByteArray) : flushL old (op ++ [p]) = (flushL old op).set p.1 p.2 := by
  unfold flushL
  rw [List.foldl_append]
  rfl

/-- a list's property from one that grows at its end -/
theorem snoc_ind {α : Type} {p : List α → Prop} (h0 : p []) (h1 : ∀ l x, p l → p (l ++ [x])) : ∀ l, p l := by
  intro l
  have : ∀ n, ∀ l : List α, l.length = n → p l := by
    intro n
    induction n with
    | zero => intro l hl; rw [List.length_eq_zero_iff.1 hl]; exact h0
    | succ n ih =>
      intro l hl
      have hne : l ≠ [] := by intro e; rw [e] at hl; simp at hl
      rw [← List.dropLast_concat_getLast hne]
      exact h1 _ _ (ih _ (by rw [List.length_dropLast]; omega))
  exact this _ l rfl

theorem flushL_length (old : List ByteArray) (op : List (Nat × ByteArray)) : (flushL old op).length = old.length := by
  induction op using snoc_ind with
  | h0 => rfl
  | h1 l x ih => rw [flushL_snoc, List.length_set, ih]

theorem flushL_get (old : List ByteArray) (op : List (Nat × ByteArray)) (i : Nat) (hi : i < old.length) (z : ByteArray) : (flushL old op).getD i z = (lastW op i).getD (old.getD i z) := by
  induction op using snoc_ind with
  | h0 => rfl
  | h1 l x ih =>
    rw [flushL_snoc, lastW_snoc, List.getD_eq_getElem?_getD, List.getElem?_set]
    split
    · rename_i h
      rw [if_pos (by rw [flushL_length]; omega)]
      simp
    · rw [← List.getD_eq_getElem?_getD, ih]

/-- a sector's bytes where a write is torn: the first k are the write's -/
def tearK (old data : ByteArray) (k : Nat) : ByteArray := data.extract 0 k ++ old.extract k old.size
/-- what a write leaves, by its fate -/
def tear (old data : ByteArray) (f : Int) : ByteArray := if f < 1 then old else if f = 1 then data else tearK old data (f.toNat % 1024)

def crashL (old : List ByteArray) (l : List ((Nat × ByteArray) × Int)) : List ByteArray := l.foldl (fun s p => s.set p.1.1 (tear (s.getD p.1.1 ByteArray.empty) p.1.2 p.2)) old
theorem crashL_snoc (old : List ByteArray) (l : List ((Nat × ByteArray) × Int)) (p : (Nat × ByteArray) × Int) :
    crashL old (l ++ [p]) = (crashL old l).set p.1.1 (tear ((crashL old l).getD p.1.1 ByteArray.empty) p.1.2 p.2) := by
  unfold crashL
  rw [List.foldl_append]
  rfl
theorem crashL_length (old : List ByteArray) (l : List ((Nat × ByteArray) × Int)) : (crashL old l).length = old.length := by
  induction l using snoc_ind with
  | h0 => rfl
  | h1 l x ih => rw [crashL_snoc, List.length_set, ih]

theorem set_same (l : List ByteArray) (i : Nat) (z : ByteArray) : l.set i (l.getD i z) = l := by
  apply List.ext_getElem?
  intro j
  rw [List.getElem?_set]
  split
  · rename_i h
    subst h
    split
    · rename_i h
      rw [List.getD_eq_getElem?_getD, List.getElem?_eq_getElem h]
      rfl
    · rename_i h
      rw [List.getElem?_eq_none (by omega)]
  · rfl

/-- the answers -/
def readM (m : Dk) (n : Int) : ByteArray × Int :=
  if m.gone = true then (ByteArray.empty, 30) else if n < 0 ∨ (m.old.length : Int) ≤ n then (ByteArray.empty, 31) else ((lastW m.op n.toNat).getD (m.old.getD n.toNat ByteArray.empty), 0)
def spent (l : Int) : Int := if 0 < l then l - 1 else l
def writeE (m : Dk) (n : Int) (data : ByteArray) : Int :=
  if m.gone = true then 30 else if m.left = 0 then 30 else if n < 0 ∨ (m.old.length : Int) ≤ n then 31 else if data.size ≠ 1024 then 32 else 0
def writeM (m : Dk) (n : Int) (data : ByteArray) : Dk :=
  if m.gone = true then m else if m.left = 0 then { m with gone := true } else if n < 0 ∨ (m.old.length : Int) ≤ n then m else if data.size ≠ 1024 then m
  else { m with left := spent m.left, op := m.op ++ [(n.toNat, data)] }
def flushE (m : Dk) : Int := if m.gone = true then 30 else if m.left = 0 then 30 else 0
def flushM (m : Dk) : Dk :=
  if m.gone = true then m else if m.left = 0 then { m with gone := true } else { m with left := spent m.left, old := flushL m.old m.op, op := [] }
def powerM (m : Dk) (c : Int) : Dk := if m.gone = true then m else { m with left := max c (-1) }
def crashM (m : Dk) (fs : List Int) : Dk := { old := crashL m.old (m.op.zip fs), op := [], left := -1, gone := false }

/-- what holds of every disk: sectors have 1024 bytes, open writes name sectors and have as many -/
structure Ok (m : Dk) : Prop where
  old : ∀ i, i < m.old.length → (m.old.getD i ByteArray.empty).size = 1024
  op : ∀ p ∈ m.op, p.1 < m.old.length ∧ p.2.size = 1024
  left : -1 ≤ m.left ∧ m.left ≤ 9223372036854775807
  many : m.old.length ≤ 4096

theorem spent_in {l : Int} (h : -1 ≤ l ∧ l ≤ 9223372036854775807) : -1 ≤ spent l ∧ spent l ≤ 9223372036854775807 := by
  unfold spent
  split <;> omega

theorem lastW_mem (op : List (Nat × ByteArray)) (i : Nat) (s : ByteArray) : lastW op i = some s → (i, s) ∈ op := by
  induction op using snoc_ind with
  | h0 => intro h; cases h
  | h1 l x ih =>
    intro h
    rw [lastW_snoc] at h
    split at h
    · rename_i e
      cases h
      subst e
      exact List.mem_append_right _ (by simp)
    · exact List.mem_append_left _ (ih h)

theorem ok_write {m : Dk} (h : Ok m) (n : Int) (data : ByteArray) : Ok (writeM m n data) := by
  unfold writeM
  split
  · exact h
  · split
    · exact ⟨h.old, h.op, h.left, h.many⟩
    · split
      · exact h
      · split
        · exact h
        · refine ⟨h.old, ?_, spent_in h.left, h.many⟩
          intro p hp
          rcases List.mem_append.1 hp with hp | hp
          · exact h.op p hp
          · rename_i h1 h2
            simp at hp
            subst hp
            exact ⟨by show n.toNat < m.old.length; omega, by show data.size = 1024; omega⟩

theorem ok_flush {m : Dk} (h : Ok m) : Ok (flushM m) := by
  unfold flushM
  split
  · exact h
  · split
    · exact ⟨h.old, h.op, h.left, h.many⟩
    · refine ⟨?_, (fun p hp => absurd hp List.not_mem_nil), spent_in h.left, ?_⟩
      · intro i hi
        rw [flushL_length] at hi
        show ((flushL m.old m.op).getD i ByteArray.empty).size = 1024
        rw [flushL_get _ _ _ hi]
        cases hl : lastW m.op i with
        | none => exact h.old i hi
        | some s => exact (h.op _ (lastW_mem _ _ _ hl)).2
      · show (flushL m.old m.op).length ≤ 4096
        rw [flushL_length]
        exact h.many

theorem ok_power {m : Dk} (h : Ok m) (c : Int) (hc : c ≤ 9223372036854775807) : Ok (powerM m c) := by
  unfold powerM
  split
  · exact h
  · refine ⟨h.old, h.op, ?_, h.many⟩
    show -1 ≤ max c (-1) ∧ max c (-1) ≤ 9223372036854775807
    omega

theorem tear_size {old data : ByteArray} (f : Int) (h1 : old.size = 1024) (h2 : data.size = 1024) : (tear old data f).size = 1024 := by
  unfold tear
  split
  · exact h1
  · split
    · exact h2
    · unfold tearK
      rw [ByteArray.size_append, ByteArray.size_extract, ByteArray.size_extract]
      omega

theorem crashL_size {m : Dk} (h : Ok m) (fs : List Int) (j : Nat) : ∀ i, i < m.old.length → ((crashL m.old ((m.op.zip fs).take j)).getD i ByteArray.empty).size = 1024 := by
  have key : ∀ l : List ((Nat × ByteArray) × Int), (∀ p ∈ l, p.1 ∈ m.op) → ∀ i, i < m.old.length → ((crashL m.old l).getD i ByteArray.empty).size = 1024 := by
    intro l
    induction l using snoc_ind with
    | h0 => intro _; exact h.old
    | h1 l x ih =>
      intro hl i hi
      have ih' := ih (fun p hp => hl p (List.mem_append_left _ hp))
      have hx := h.op _ (hl x (List.mem_append_right _ (by simp)))
      rw [crashL_snoc, List.getD_eq_getElem?_getD, List.getElem?_set]
      split
      · rename_i e
        subst e
        rw [if_pos (by rw [crashL_length]; exact hx.1)]
        exact tear_size _ (ih' _ hx.1) hx.2
      · rw [← List.getD_eq_getElem?_getD]
        exact ih' i hi
  refine key _ (fun p hp => ?_)
  have := List.mem_of_mem_take hp
  exact (List.of_mem_zip (a := p.1) (b := p.2) this).1

theorem ok_crash {m : Dk} (h : Ok m) (fs : List Int) : Ok (crashM m fs) := by
  refine ⟨?_, (fun p hp => absurd hp List.not_mem_nil), (by show (-1 : Int) ≤ -1 ∧ (-1 : Int) ≤ 9223372036854775807; omega), ?_⟩
  · intro i hi
    have hi' : i < m.old.length := by rw [show (crashM m fs).old = crashL m.old (m.op.zip fs) from rfl, crashL_length] at hi; exact hi
    have := crashL_size h fs (m.op.zip fs).length i hi'
    rw [List.take_length] at this
    exact this
  · show (crashL m.old (m.op.zip fs)).length ≤ 4096
    rw [crashL_length]
    exact h.many

/-- one more of the writes that a crash goes through -/
theorem crash_take (old : List ByteArray) (op : List (Nat × ByteArray)) (fs : List Int) (j : Nat) (h1 : j < op.length) (h2 : j < fs.length) :
    crashL old ((op.zip fs).take (j + 1)) = (crashL old ((op.zip fs).take j)).set op[j].1 (tear ((crashL old ((op.zip fs).take j)).getD op[j].1 ByteArray.empty) op[j].2 fs[j]) := by
  have hl : j < (op.zip fs).length := by rw [List.length_zip]; omega
  rw [List.take_add_one, List.getElem?_eq_getElem hl]
  show crashL old ((op.zip fs).take j ++ [(op.zip fs)[j]]) = _
  rw [crashL_snoc, List.getElem_zip]
end Go.Proofs.Ytmkmebogfcbphaa
