/- Entries in parts that fit (plain mathematics): as many as can be, from the left. -/
import Derived.Test.YtepkifledonldaaPuts
import Derived.Test.YtepkifledonldaaEnc
namespace Go.Proofs.Ytepkifledonldaa.Cut
open Go.ChangeShapes Go.WideShapes Go.ChangeAt Go.RowKit

variable {α : Type} (g : α → List Nat)
/-- how many bytes a node has with these entries -/
def size (l : List α) : Nat := sz l.length (l.flatMap g).length
/-- the parts, where the first one has these already -/
def parts : List α → List α → List (List α)
  | one, [] => [one]
  | one, x :: t => if 1007 < size g (one ++ [x]) then one :: parts [x] t else parts (one ++ [x]) t
/-- how many go into the part that has these already -/
def fit : List α → List α → Nat
  | _, [] => 0
  | one, x :: t => if 1007 < size g (one ++ [x]) then 0 else fit (one ++ [x]) t + 1

theorem size_mono (l r : List α) : size g l ≤ size g (l ++ r) := by
  unfold size sz
  rw [List.length_append, List.flatMap_append, List.length_append]
  have : (Pk.shL l.length).length ≤ (Pk.shL (l.length + r.length)).length := by
    have key : ∀ f n m, n ≤ m → (Pk.shF f n).length ≤ (Pk.shF f m).length := by
      intro f
      induction f with
      | zero => intro n m _; simp [Pk.shF]
      | succ f ih =>
        intro n m h
        by_cases h1 : m < 128
        · rw [Pk.shF_small _ m h1, Pk.shF_small _ n (by omega)]
          exact Nat.le_refl 1
        · by_cases h2 : n < 128
          · rw [Pk.shF_small _ n h2]
            have := Pk.shF_pos (f + 1) m
            simp
            omega
          · rw [Pk.shF_big f m h1, Pk.shF_big f n h2]
            have := ih (n / 128) (m / 128) (Nat.div_le_div_right h)
            simp
            omega
    exact key 9 _ _ (by omega)
  omega
theorem fit_le (one l : List α) : fit g one l ≤ l.length := by
  induction l generalizing one with
  | nil => simp [fit]
  | cons x t ih =>
    unfold fit
    split
    · exact Nat.zero_le _
    · have := ih (one ++ [x])
      simp
      omega
theorem fit_pos {x : α} {t : List α} (h : ¬ 1007 < size g [x]) : 0 < fit g [] (x :: t) := by
  unfold fit
  rw [if_neg (by simpa using h)]
  omega
/-- the first part, and the others -/
theorem parts_fit {l : List α} (hs : ∀ x : α, x ∈ l → ¬ 1007 < size g [x]) (one : List α) : parts g one l = (one ++ l.take (fit g one l)) :: (if l.drop (fit g one l) = [] then [] else parts g [] (l.drop (fit g one l))) := by
  induction l generalizing one with
  | nil => simp [parts, fit]
  | cons x t ih =>
    by_cases h : 1007 < size g (one ++ [x])
    · have hx := hs x List.mem_cons_self
      have e : parts g [] (x :: t) = parts g [x] t := by
        rw [parts, if_neg (by simpa using hx)]
        rfl
      simp only [parts, fit, if_pos h]
      simp [e]
    · have := ih (fun y hy => hs y (List.mem_cons_of_mem _ hy)) (one ++ [x])
      simp only [parts, fit, if_neg h]
      rw [this]
      simp
theorem parts_flat (one l : List α) : (parts g one l).flatten = one ++ l := by
  induction l generalizing one with
  | nil => simp [parts]
  | cons x t ih =>
    unfold parts
    split
    · simp [ih]
    · rw [ih]
      simp
theorem parts_ok {l : List α} (hs : ∀ x : α, x ∈ l → ¬ 1007 < size g [x]) (one : List α) (h1 : ¬ 1007 < size g one) (h2 : one ≠ [] ∨ l ≠ []) : ∀ p ∈ parts g one l, p ≠ [] ∧ ¬ 1007 < size g p := by
  induction l generalizing one with
  | nil =>
    intro p hp
    simp [parts] at hp
    subst hp
    exact ⟨by simpa using h2, h1⟩
  | cons x t ih =>
    intro p hp
    unfold parts at hp
    have hx := hs x List.mem_cons_self
    split at hp
    · rename_i hbig
      rcases List.mem_cons.1 hp with rfl | hp
      · refine ⟨?_, h1⟩
        intro e
        subst e
        exact hx (by simpa using hbig)
      · exact ih (fun y hy => hs y (List.mem_cons_of_mem _ hy)) [x] hx (.inl (by simp)) p hp
    · rename_i hbig
      exact ih (fun y hy => hs y (List.mem_cons_of_mem _ hy)) (one ++ [x]) hbig (.inl (by simp)) p hp
theorem parts_pos (one l : List α) : 0 < (parts g one l).length := by
  induction l generalizing one with
  | nil => simp [parts]
  | cons x t ih =>
    unfold parts
    split
    · simp
    · exact ih _
theorem parts_one (one l : List α) : (parts g one l).length = 1 ↔ (l = [] ∨ ¬ 1007 < size g (one ++ l)) := by
  induction l generalizing one with
  | nil => simp [parts]
  | cons x t ih =>
    unfold parts
    split
    · rename_i h
      have h1 := parts_pos g [x] t
      have h2 := size_mono g (one ++ [x]) t
      rw [List.append_assoc] at h2
      have h3 : 1007 < size g (one ++ x :: t) := by
        have : one ++ ([x] ++ t) = one ++ x :: t := by simp
        rw [this] at h2
        omega
      simp only [List.length_cons]
      constructor
      · intro h; omega
      · intro h
        rcases h with h | h
        · simp at h
        · exact absurd h3 h
    · rename_i h
      rw [ih]
      have : one ++ [x] ++ t = one ++ x :: t := by simp
      rw [this]
      constructor
      · intro h'
        rcases h' with rfl | h'
        · exact .inr (by simpa using h)
        · exact .inr h'
      · intro h'
        rcases h' with h' | h'
        · simp at h'
        · exact .inr h'
theorem parts_many (one l : List α) : (parts g one l).length ≤ l.length + 1 := by
  induction l generalizing one with
  | nil => simp [parts]
  | cons x t ih =>
    unfold parts
    split
    · have := ih [x]
      simp
      omega
    · have := ih (one ++ [x])
      simp
      omega
end Cut
variable {β : Type} {may : ByteArray × β → Bool}
theorem rise_none {p : Option ByteArray} {l : List (ByteArray × β)} (h : rise may p l = true) : rise may none l = true := by
  cases l with
  | nil => rfl
  | cons x t =>
    cases p with
    | none => exact h
    | some q =>
      simp [rise] at h ⊢
      exact ⟨h.1.1, h.2⟩
theorem rise_left {p : Option ByteArray} {l r : List (ByteArray × β)} (h : rise may p (l ++ r) = true) : rise may p l = true := by
  induction l generalizing p with
  | nil => rfl
  | cons x t ih =>
    rw [List.cons_append] at h
    cases p with
    | none =>
      simp [rise] at h ⊢
      exact ⟨h.1, ih h.2⟩
    | some q =>
      simp [rise] at h ⊢
      exact ⟨h.1, ih h.2⟩
theorem rise_right {p : Option ByteArray} {l r : List (ByteArray × β)} (h : rise may p (l ++ r) = true) : rise may none r = true := by
  induction l generalizing p with
  | nil => exact rise_none h
  | cons x t ih =>
    rw [List.cons_append] at h
    cases p with
    | none =>
      simp [rise] at h
      exact ih h.2
    | some q =>
      simp [rise] at h
      exact ih h.2
theorem rise_parts {ps : List (List (ByteArray × β))} (h : rise may none ps.flatten = true) : ∀ p ∈ ps, rise may none p = true := by
  induction ps with
  | nil => intro p hp; cases hp
  | cons q t ih =>
    rw [List.flatten_cons] at h
    intro p hp
    rcases List.mem_cons.1 hp with rfl | hp
    · exact rise_left h
    · exact ih (rise_right h) p hp
/-- a part of a right leaf is one that fits -/
theorem leaf_parts {its : List It} (hr : rightB ⟨true, its, []⟩ = true) : (∀ p ∈ Cut.parts itL [] its, checkN ⟨true, p, []⟩ = 0) ∧ (Cut.parts itL [] its).flatten = its ∧ ((Cut.parts itL [] its).length = 1 ↔ checkN ⟨true, its, []⟩ = 0) := by
  obtain ⟨_, hne, hrise⟩ := right_leaf hr
  have hsz : ∀ l : List It, Cut.size itL l = (ndL ⟨true, l, []⟩).length := by
    intro l
    unfold Cut.size sz
    show _ = (1 :: (Pk.shL l.length ++ l.flatMap itL)).length
    rw [List.length_cons, List.length_append]
    omega
  have hs : ∀ x ∈ its, ¬ 1007 < Cut.size itL [x] := by
    intro x hx
    have h1 := itL_le (rise_all _ _ hrise x hx)
    have h2 := Pk.shL_le 1
    unfold Cut.size sz
    simp
    omega
  have hfl := Cut.parts_flat itL [] its
  rw [List.nil_append] at hfl
  refine ⟨fun p hp => ?_, hfl, ?_⟩
  · obtain ⟨h1, h2⟩ := Cut.parts_ok itL hs [] (by decide) (.inr hne) p hp
    have h3 : rise mayI none p = true := rise_parts (by rw [hfl]; exact hrise) p hp
    have h4 : rightB ⟨true, p, []⟩ = true := by
      have : p.isEmpty = false := by cases p with
        | nil => exact absurd rfl h1
        | cons _ _ => rfl
      simp [rightB, this, h3]
    unfold checkN
    rw [if_pos h4, if_neg (by rw [← hsz]; exact h2)]
  · rw [Cut.parts_one, List.nil_append, hsz]
    unfold checkN
    rw [if_pos hr]
    constructor
    · intro h
      rcases h with h | h
      · exact absurd h hne
      · rw [if_neg h]
    · intro h
      right
      intro hb
      rw [if_pos hb] at h
      omega
theorem kids_parts {kds : List Kd} (hr : rightB ⟨false, [], kds⟩ = true) : (∀ p ∈ Cut.parts kdL [] kds, checkN ⟨false, [], p⟩ = 0) ∧ (Cut.parts kdL [] kds).flatten = kds ∧ ((Cut.parts kdL [] kds).length = 1 ↔ checkN ⟨false, [], kds⟩ = 0) := by
  obtain ⟨_, hne, hrise⟩ := right_kids hr
  have hsz : ∀ l : List Kd, Cut.size kdL l = (ndL ⟨false, [], l⟩).length := by
    intro l
    unfold Cut.size sz
    show _ = (2 :: (Pk.shL l.length ++ l.flatMap kdL)).length
    rw [List.length_cons, List.length_append]
    omega
  have hs : ∀ x ∈ kds, ¬ 1007 < Cut.size kdL [x] := by
    intro x hx
    have h1 := kdL_le (rise_all _ _ hrise x hx)
    have h2 := Pk.shL_le 1
    unfold Cut.size sz
    simp
    omega
  have hfl := Cut.parts_flat kdL [] kds
  rw [List.nil_append] at hfl
  refine ⟨fun p hp => ?_, hfl, ?_⟩
  · obtain ⟨h1, h2⟩ := Cut.parts_ok kdL hs [] (by decide) (.inr hne) p hp
    have h3 : rise mayK none p = true := rise_parts (by rw [hfl]; exact hrise) p hp
    have h4 : rightB ⟨false, [], p⟩ = true := by
      have : p.isEmpty = false := by cases p with
        | nil => exact absurd rfl h1
        | cons _ _ => rfl
      simp [rightB, this, h3]
    unfold checkN
    rw [if_pos h4, if_neg (by rw [← hsz]; exact h2)]
  · rw [Cut.parts_one, List.nil_append, hsz]
    unfold checkN
    rw [if_pos hr]
    constructor
    · intro h
      rcases h with h | h
      · exact absurd h hne
      · rw [if_neg h]
    · intro h
      right
      intro hb
      rw [if_pos hb] at h
      omega
end Go.Proofs.Ytepkifledonldaa
