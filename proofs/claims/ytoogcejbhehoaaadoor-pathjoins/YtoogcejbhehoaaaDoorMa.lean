/- Names, paths, numbers of orphans: plain mathematics over lists of bytes. -/
import Derived.Lib.ItoaNum
import Derived.Lib.AtoiAll
import Derived.Lib.AtoiAllCases
namespace Go.Proofs.YtoogcejbhehoaaaDoor

/-- a byte of a name -/
def okB (c : UInt8) : Bool := !(c == 47) && !(c == 0)
/-- a name -/
def nameB (l : List UInt8) : Bool := !(l == []) && decide (l.length ≤ 255) && !(l == [46]) && !(l == [46, 46]) && l.all okB

/-- what stands between slashes, 'one' being under way -/
def cutW : List UInt8 → List UInt8 → List (List UInt8)
  | one, [] => [one]
  | one, c :: r => if c = 47 then one :: cutW [] r else cutW (one ++ [c]) r

theorem cutW_slash (one r : List UInt8) : cutW one (47 :: r) = one :: cutW [] r := by simp [cutW]
theorem cutW_nil (one : List UInt8) : cutW one [] = [one] := rfl
theorem cutW_step (one : List UInt8) {c : UInt8} (r : List UInt8) (h : c ≠ 47) : cutW one (c :: r) = cutW (one ++ [c]) r := by simp [cutW, h]
theorem cutW_clean : ∀ (a one r : List UInt8), (∀ c ∈ a, c ≠ 47) → cutW one (a ++ r) = cutW (one ++ a) r
  | [], one, r, _ => by simp
  | c :: a, one, r, h => by
    rw [List.cons_append, cutW_step _ _ (h c (by simp)), cutW_clean a _ r (fun x hx => h x (by simp [hx])), List.append_assoc]
    rfl
theorem cutW_pos : ∀ (l one : List UInt8), 0 < (cutW one l).length
  | [], one => by simp [cutW]
  | c :: r, one => by
    unfold cutW
    split
    · simp
    · exact cutW_pos r _
theorem cutW_len : ∀ (l one : List UInt8), (cutW one l).length ≤ l.length + 1
  | [], one => by simp [cutW]
  | c :: r, one => by
    unfold cutW
    split
    · have := cutW_len r []
      simp
      omega
    · have := cutW_len r (one ++ [c])
      simp
      omega
theorem cutW_size : ∀ (l one x : List UInt8), x ∈ cutW one l → x.length ≤ one.length + l.length
  | [], one, x, h => by
    simp [cutW] at h
    subst h
    simp
  | c :: r, one, x, h => by
    unfold cutW at h
    split at h
    · rcases List.mem_cons.1 h with rfl | h
      · simp
      · have := cutW_size r [] x h
        simp at this ⊢
        omega
    · have := cutW_size r _ x h
      simp at this ⊢
      omega

/-- names, each with a slash ahead -/
def joinL (ns : List (List UInt8)) : List UInt8 := (ns.map fun n => 47 :: n).flatten
theorem joinL_nil : joinL [] = [] := rfl
theorem joinL_cons (n : List UInt8) (ns : List (List UInt8)) : joinL (n :: ns) = 47 :: n ++ joinL ns := by simp [joinL]
theorem joinL_snoc (ns : List (List UInt8)) (n : List UInt8) : joinL (ns ++ [n]) = joinL ns ++ (47 :: n) := by simp [joinL]
theorem joinL_append (ns ms : List (List UInt8)) : joinL (ns ++ ms) = joinL ns ++ joinL ms := by simp [joinL]

theorem join_cut : ∀ (l one : List UInt8), joinL (cutW one l) = 47 :: one ++ l
  | [], one => by simp [cutW, joinL]
  | c :: r, one => by
    unfold cutW
    split
    · rename_i h
      subst h
      rw [joinL_cons, join_cut r []]
      simp
    · rw [join_cut r (one ++ [c])]
      simp

theorem cut_join : ∀ (ns : List (List UInt8)) (n : List UInt8), (∀ m ∈ n :: ns, ∀ c ∈ m, c ≠ 47) → cutW [] (n ++ joinL ns) = n :: ns
  | [], n, h => by
    rw [joinL_nil, cutW_clean n [] [] (h n (by simp))]
    simp [cutW]
  | m :: ns, n, h => by
    rw [joinL_cons, cutW_clean n [] _ (h n (by simp)), List.cons_append, cutW_slash, cut_join ns m (fun x hx => h x (List.mem_cons_of_mem _ hx))]
    simp

/-- each part fits where it stands, and there are not more than 32 -/
def okP (fits : Nat → List UInt8 → Bool) : Nat → List (List UInt8) → Bool
  | _, [] => true
  | n, x :: r => decide (n < 32) && fits n x && okP fits (n + 1) r
theorem okP_iff (fits : Nat → List UInt8 → Bool) : ∀ (l : List (List UInt8)) (n : Nat), okP fits n l = true ↔ (l = [] ∨ n + l.length ≤ 32) ∧ ∀ i, i < l.length → fits (n + i) (l.getD i []) = true
  | [], n => by simp [okP]
  | x :: r, n => by
    simp only [okP, Bool.and_eq_true, decide_eq_true_eq, okP_iff fits r (n + 1), List.length_cons, reduceCtorEq, false_or]
    constructor
    · rintro ⟨⟨h1, h2⟩, h3, h4⟩
      refine ⟨?_, ?_⟩
      · rcases h3 with rfl | h3
        · simp; omega
        · omega
      · intro i hi
        match i with
        | 0 => simpa using h2
        | j + 1 =>
          have := h4 j (by omega)
          rw [show n + (j + 1) = n + 1 + j by omega]
          simpa using this
    · rintro ⟨h1, h2⟩
      refine ⟨⟨by omega, by simpa using h2 0 (by omega)⟩, .inr (by omega), fun i hi => ?_⟩
      have := h2 (i + 1) (by omega)
      rw [show n + (i + 1) = n + 1 + i by omega] at this
      simpa using this
theorem okP_cons (fits : Nat → List UInt8 → Bool) (n : Nat) (x : List UInt8) (r : List (List UInt8)) : okP fits n (x :: r) = (decide (n < 32) && fits n x && okP fits (n + 1) r) := rfl
theorem okP_append (fits : Nat → List UInt8 → Bool) : ∀ (a b : List (List UInt8)) (n : Nat), okP fits n (a ++ b) = (okP fits n a && okP fits (n + a.length) b)
  | [], b, n => by simp [okP]
  | x :: a, b, n => by
    rw [List.cons_append, okP_cons, okP_cons, okP_append fits a b (n + 1), List.length_cons, show n + 1 + a.length = n + (a.length + 1) by omega, Bool.and_assoc (decide (n < 32) && fits n x)]

/-- the parts of l, if each fits -/
def partsR (fits : Nat → List UInt8 → Bool) (l : List UInt8) : Option (List (List UInt8)) := if okP fits 0 (cutW [] l) = true then some (cutW [] l) else none

/-- a number's value -/
def valF (a : Nat) (l : List UInt8) : Nat := l.foldl (fun a c => 10 * a + (c.toNat - 48)) a
def digB (c : UInt8) : Bool := decide (48 ≤ c.toNat) && decide (c.toNat ≤ 57)
theorem valF_nil (a : Nat) : valF a [] = a := rfl
theorem valF_cons (a : Nat) (c : UInt8) (l : List UInt8) : valF a (c :: l) = valF (10 * a + (c.toNat - 48)) l := by unfold valF; rw [List.foldl_cons]
theorem valF_snoc (a : Nat) (l : List UInt8) (c : UInt8) : valF a (l ++ [c]) = 10 * valF a l + (c.toNat - 48) := by simp [valF]
theorem valF_ge : ∀ (l : List UInt8) (a : Nat), a ≤ valF a l
  | [], a => Nat.le_refl _
  | c :: l, a => by
    have := valF_ge l (10 * a + (c.toNat - 48))
    rw [valF_cons]
    omega
theorem valF_mono : ∀ (l : List UInt8) (a b : Nat), a ≤ b → valF a l ≤ valF b l
  | [], a, b, h => h
  | c :: l, a, b, h => by
    rw [valF_cons, valF_cons]
    exact valF_mono l _ _ (by omega)
theorem valF_lt : ∀ (l : List UInt8) (a : Nat), (∀ c ∈ l, digB c = true) → valF a l < (a + 1) * 10 ^ l.length
  | [], a, _ => by simp [valF]
  | c :: l, a, h => by
    have hc := h c (by simp)
    simp only [digB, Bool.and_eq_true, decide_eq_true_eq] at hc
    have := valF_lt l (10 * a + (c.toNat - 48)) (fun x hx => h x (by simp [hx]))
    rw [valF_cons, List.length_cons, Nat.pow_succ]
    refine Nat.lt_of_lt_of_le this ?_
    rw [Nat.mul_comm (10 ^ l.length) 10, ← Nat.mul_assoc]
    exact Nat.mul_le_mul_right _ (by omega)

theorem dec_snoc {u : Nat} (h : ¬ u < 10) : Lib.decDigits u = Lib.decDigits (u / 10) ++ [UInt8.ofNat (48 + u % 10)] := by rw [Lib.decDigits, dif_neg h]
theorem dec_one {u : Nat} (h : u < 10) : Lib.decDigits u = [UInt8.ofNat (48 + u)] := by rw [Lib.decDigits, dif_pos h]
theorem dig_nat {d : Nat} (h : d < 10) : (UInt8.ofNat (48 + d)).toNat = 48 + d := by
  rw [UInt8.toNat_ofNat']
  exact Nat.mod_eq_of_lt (by omega)

theorem snoc_cases {α : Type} : ∀ (l : List α), l ≠ [] → ∃ a b, l = a ++ [b]
  | [], h => absurd rfl h
  | [x], _ => ⟨[], x, rfl⟩
  | x :: y :: r, _ => by
    obtain ⟨a, b, h⟩ := snoc_cases (y :: r) (by simp)
    exact ⟨x :: a, b, by rw [h]; rfl⟩
theorem head_app {α : Type} : ∀ (a b : List α), a ≠ [] → (a ++ b).head? = a.head?
  | [], _, h => absurd rfl h
  | _ :: _, _, _ => rfl

/-- the numeral of a number above 0 begins with no 0, and is its number -/
theorem dec_facts (u : Nat) : Lib.decDigits u ≠ [] ∧ (∀ c ∈ Lib.decDigits u, digB c = true) ∧ valF 0 (Lib.decDigits u) = u ∧ (1 ≤ u → (Lib.decDigits u).head? ≠ some 48) := by
  induction u using Nat.strongRecOn with
  | _ u ih =>
    by_cases h : u < 10
    · rw [dec_one h]
      have e := dig_nat h
      refine ⟨by simp, ?_, ?_, ?_⟩
      · intro c hc
        simp at hc
        subst hc
        have e2 : (UInt8.ofNat (48 + u)).toNat = 48 + u := e
        simp only [digB, Bool.and_eq_true, decide_eq_true_eq]
        have e3 : (48 + UInt8.ofNat u) = UInt8.ofNat (48 + u) := by apply UInt8.toNat_inj.1; simp [UInt8.toNat_add, UInt8.toNat_ofNat']
        first | (rw [e2]; omega) | (rw [e3, e2]; omega)
      · rw [valF_cons, e, valF_nil]
        omega
      · intro h1 h2
        have h3 : UInt8.ofNat (48 + u) = 48 := by simpa using h2
        have h4 := congrArg UInt8.toNat h3
        rw [e] at h4
        have : (48 : UInt8).toNat = 48 := rfl
        omega
    · obtain ⟨a, b, c, d⟩ := ih (u / 10) (by omega)
      have e := dig_nat (d := u % 10) (by omega)
      rw [dec_snoc h]
      refine ⟨by simp, ?_, ?_, ?_⟩
      · intro x hx
        rcases List.mem_append.1 hx with hx | hx
        · exact b x hx
        · rw [List.mem_singleton] at hx
          subst hx
          simp only [digB, Bool.and_eq_true, decide_eq_true_eq, e]
          omega
      · rw [valF_snoc, c, e]
        omega
      · intro _
        rw [head_app _ _ a]
        exact d (by omega)

theorem dec_len : ∀ (k u : Nat), u < 10 ^ (k + 1) → (Lib.decDigits u).length ≤ k + 1
  | 0, u, h => by rw [dec_one (by simpa using h)]; simp
  | k + 1, u, h => by
    by_cases h' : u < 10
    · rw [dec_one h']; simp
    · rw [dec_snoc h', List.length_append, List.length_singleton]
      have := dec_len k (u / 10) (by rw [Nat.pow_succ] at h; omega)
      omega

/-- digits that begin with no 0 are the numeral of their number -/
theorem dec_val : ∀ (k : Nat) (l : List UInt8), l.length = k → l ≠ [] → (∀ c ∈ l, digB c = true) → l.head? ≠ some 48 → Lib.decDigits (valF 0 l) = l ∧ 1 ≤ valF 0 l := by
  intro k
  induction k with
  | zero => intro l hl hne _ _; exact absurd (List.length_eq_zero_iff.1 hl) hne
  | succ k ih =>
    intro l hl hne hd hh
    obtain ⟨a, b, rfl⟩ := snoc_cases l hne
    have hb := hd b (by simp)
    simp only [digB, Bool.and_eq_true, decide_eq_true_eq] at hb
    have eb : UInt8.ofNat (48 + (b.toNat - 48)) = b := by
      apply UInt8.toNat_inj.1
      rw [dig_nat (by omega)]
      omega
    by_cases ha : a = []
    · subst ha
      simp only [List.nil_append] at hh ⊢
      have hv : valF 0 [b] = b.toNat - 48 := by rw [valF_cons, valF_nil]; omega
      have hb48 : b.toNat ≠ 48 := by
        intro h
        apply hh
        have : b = 48 := UInt8.toNat_inj.1 h
        simp [this]
      rw [hv, dec_one (by omega), eb]
      exact ⟨rfl, by omega⟩
    · rw [head_app _ _ ha] at hh
      obtain ⟨i1, i2⟩ := ih a (by simp at hl; exact hl) ha (fun c hc => hd c (by simp [hc])) hh
      rw [valF_snoc]
      refine ⟨?_, by omega⟩
      rw [dec_snoc (by omega), show (10 * valF 0 a + (b.toNat - 48)) / 10 = valF 0 a by omega, show (10 * valF 0 a + (b.toNat - 48)) % 10 = b.toNat - 48 by omega, i1, eb]

/-- whose name it is -/
def orphR (l : List UInt8) : Option Nat :=
  match l with
  | [] => none
  | z :: ds => if z = 0 ∧ ds ≠ [] ∧ ds.length ≤ 13 ∧ ds.head? ≠ some 48 ∧ (∀ c ∈ ds, digB c = true) ∧ 1 ≤ valF 0 ds ∧ valF 0 ds ≤ 1099511627776 then some (valF 0 ds) else none

/-- an orphan's name is the numeral behind a 0 -/
theorem orphR_iff (l : List UInt8) (n : Nat) : orphR l = some n ↔ (1 ≤ n ∧ n ≤ 1099511627776) ∧ l = 0 :: Lib.decDigits n := by
  constructor
  · intro h
    unfold orphR at h
    split at h
    · cases h
    · split at h
      · rename_i z ds hh
        obtain ⟨rfl, h1, h2, h3, h4, h5, h6⟩ := hh
        injection h with h
        subst h
        exact ⟨⟨h5, h6⟩, by rw [(dec_val ds.length ds rfl h1 h4 h3).1]⟩
      · cases h
  · rintro ⟨⟨h1, h2⟩, rfl⟩
    obtain ⟨a, b, c, d⟩ := dec_facts n
    have hl := dec_len 12 n (by omega)
    unfold orphR
    simp only
    rw [if_pos ⟨trivial, a, by omega, d h1, b, by rw [c]; exact h1, by rw [c]; exact h2⟩, c]

theorem parse_val : ∀ (l : List UInt8) (a : Nat), (∀ c ∈ l, digB c = true) → valF a l < 1844674407370955162 → Lib.parseUint10 a l = .ok (valF a l)
  | [], a, _, _ => rfl
  | c :: l, a, h, hv => by
    have hc := h c (by simp)
    simp only [digB, Bool.and_eq_true, decide_eq_true_eq] at hc
    rw [valF_cons] at hv ⊢
    have h1 := valF_ge l (10 * a + (c.toNat - 48))
    have h2 : 10 * a + (c.toNat - 48) = a * 10 + (c.toNat - 48) := by omega
    simp only [Lib.parseUint10]
    rw [if_pos hc, if_neg (by omega), if_neg (by omega), h2, ← h2]
    rw [h2]
    rw [h2] at hv
    exact parse_val l _ (fun x hx => h x (by simp [hx])) hv

theorem atoi_dec (n : Nat) (h : n ≤ 1099511627776) : Lib.atoiAll (Lib.decDigits n) = .ok (n : Int) := by
  obtain ⟨a, b, c, _⟩ := dec_facts n
  cases e : Lib.decDigits n with
  | nil => exact absurd e a
  | cons x r =>
    rw [e] at b c
    have hx := b x (by simp)
    simp only [digB, Bool.and_eq_true, decide_eq_true_eq] at hx
    rw [Lib.atoiAll_plain x r (by omega) (by omega)]
    unfold Lib.parseMag
    rw [if_neg (by simp), parse_val (x :: r) 0 b (by rw [c]; omega), c]
    simp only [Lib.signless]
    rw [if_neg (by omega)]

/-- what Atoi hands back, error or not -/
def atoiN (l : List UInt8) : Int := match Lib.atoiAll l with
  | .ok v => v
  | .syntax => 0
  | .range => Lib.atoiSat l
theorem atoiN_bounds (l : List UInt8) : -9223372036854775808 ≤ atoiN l ∧ atoiN l ≤ 9223372036854775807 := by
  unfold atoiN
  cases h : Lib.atoiAll l with
  | ok v => exact Lib.atoiAll_bounds h
  | «syntax» => simp
  | range => exact Lib.atoiSat_bounds l

/-- what is left behind a 0 that stands ahead -/
def cut0 : List UInt8 → List UInt8
  | [] => []
  | c :: r => if c = 0 then r else c :: r
/-- an orphan's name -/
def orphE (n : Int) : Option (List UInt8) := if 1 ≤ n ∧ n ≤ 1099511627776 then some (0 :: Lib.itoa n) else none
/-- the program's way to tell whose name it is -/
theorem orph_way (l : List UInt8) : (∀ n, orphR l = some n → atoiN (cut0 l) = n ∧ orphE n = some l) ∧ (orphR l = none → orphE (atoiN (cut0 l)) ≠ some l) := by
  constructor
  · intro n h
    obtain ⟨⟨h1, h2⟩, rfl⟩ := (orphR_iff l n).1 h
    refine ⟨?_, ?_⟩
    · unfold atoiN
      simp only [cut0, if_true]
      rw [atoi_dec n h2]
    · unfold orphE
      rw [if_pos (by omega)]
      unfold Lib.itoa
      rw [if_neg (by omega)]
      simp
  · intro h hn
    unfold orphE at hn
    split at hn
    · rename_i hb
      injection hn with hn
      have : orphR l = some (atoiN (cut0 l)).toNat := by
        rw [orphR_iff]
        refine ⟨by omega, hn.symm.trans ?_⟩
        unfold Lib.itoa
        rw [if_neg (by omega)]
      rw [h] at this
      cases this
    · cases hn

/-- a loose path's name where it stands -/
def fitB (loose : Bool) (i : Nat) (x : List UInt8) : Bool := nameB x || (loose && (decide (i = 0) && (orphR x).isSome))
/-- what a target says that doesn't lead from the root -/
def stepB (_ : Nat) (x : List UInt8) : Bool := nameB x || x == [46, 46]

/-- the names of a path, of a loose one -/
def walkR (loose : Bool) : List UInt8 → Option (List (List UInt8))
  | [] => none
  | c :: r => if c = 47 ∧ r.length ≤ (if loose = true then 1036 else 1022) then (if r = [] then some [] else partsR (fitB loose) r) else none
/-- a target -/
def targB (l : List UInt8) : Bool := !(l == []) && decide (l.length ≤ 100) && l.all fun c => !(c == 0)
/-- where a target leads, and whether from the root -/
def leadR (l : List UInt8) : Option (List (List UInt8) × Bool) :=
  if targB l = true then (if l.head? = some 47 then (walkR false l).map fun x => (x, true) else (partsR stepB l).map fun x => (x, false)) else none
/-- the path of names -/
def joinR (ns : List (List UInt8)) : Option (List UInt8) :=
  if ns = [] then some [47] else if ns.length ≤ 32 ∧ (∀ n ∈ ns, nameB n = true) ∧ (joinL ns).length ≤ 1023 then some (joinL ns) else none

/-! ### what follows -/
theorem name_clean {l : List UInt8} (h : nameB l = true) : ∀ c ∈ l, c ≠ 47 := by
  simp only [nameB, Bool.and_eq_true, List.all_eq_true] at h
  intro c hc h0
  have := h.2 c hc
  subst h0
  simp [okB] at this
theorem zero_noName (l : List UInt8) : nameB (0 :: l) = false := by simp [nameB, okB]
theorem nil_noName : nameB [] = false := by simp [nameB]

theorem fit_false (i : Nat) (x : List UInt8) : fitB false i x = nameB x := by simp [fitB]

theorem walk_iff (loose : Bool) (p : List UInt8) (ns : List (List UInt8)) : walkR loose p = some ns ↔ ∃ r, p = 47 :: r ∧ r.length ≤ (if loose = true then 1036 else 1022) ∧ (r = [] ∧ ns = [] ∨ r ≠ [] ∧ ns = cutW [] r ∧ okP (fitB loose) 0 ns = true) := by
  constructor
  · intro h
    match p, h with
    | [], h => cases h
    | c :: r, h =>
      have h' : (if c = 47 ∧ r.length ≤ (if loose = true then 1036 else 1022) then (if r = [] then some [] else partsR (fitB loose) r) else none) = some ns := h
      by_cases h1 : c = 47 ∧ r.length ≤ (if loose = true then 1036 else 1022)
      · rw [if_pos h1] at h'
        obtain ⟨rfl, h1⟩ := h1
        refine ⟨r, rfl, h1, ?_⟩
        by_cases h2 : r = []
        · rw [if_pos h2] at h'
          injection h' with h'
          exact .inl ⟨h2, h'.symm⟩
        · rw [if_neg h2] at h'
          unfold partsR at h'
          by_cases h3 : okP (fitB loose) 0 (cutW [] r) = true
          · rw [if_pos h3] at h'
            injection h' with h'
            subst h'
            exact .inr ⟨h2, rfl, h3⟩
          · rw [if_neg h3] at h'
            cases h'
      · rw [if_neg h1] at h'
        cases h'
  · rintro ⟨r, rfl, h1, h2⟩
    show (if (47 : UInt8) = 47 ∧ r.length ≤ (if loose = true then 1036 else 1022) then (if r = [] then some [] else partsR (fitB loose) r) else none) = some ns
    rw [if_pos ⟨rfl, h1⟩]
    rcases h2 with ⟨h2, h3⟩ | ⟨h2, h3, h4⟩
    · rw [if_pos h2, h3]
    · rw [if_neg h2]
      subst h3
      unfold partsR
      rw [if_pos h4]

theorem join_iff (ns : List (List UInt8)) (p : List UInt8) : joinR ns = some p ↔ (ns = [] ∧ p = [47]) ∨ (ns ≠ [] ∧ ns.length ≤ 32 ∧ (∀ n ∈ ns, nameB n = true) ∧ (joinL ns).length ≤ 1023 ∧ p = joinL ns) := by
  unfold joinR
  by_cases h0 : ns = []
  · rw [if_pos h0]
    constructor
    · intro h
      injection h with h
      exact .inl ⟨h0, h.symm⟩
    · rintro (⟨_, rfl⟩ | ⟨h, _⟩)
      · rfl
      · exact absurd h0 h
  · rw [if_neg h0]
    by_cases h1 : ns.length ≤ 32 ∧ (∀ n ∈ ns, nameB n = true) ∧ (joinL ns).length ≤ 1023
    · rw [if_pos h1]
      constructor
      · intro h
        injection h with h
        exact .inr ⟨h0, h1.1, h1.2.1, h1.2.2, h.symm⟩
      · rintro (⟨h, _⟩ | ⟨_, _, _, _, rfl⟩)
        · exact absurd h h0
        · rfl
    · rw [if_neg h1]
      constructor
      · intro h
        cases h
      · rintro (⟨h, _⟩ | ⟨_, a, b, c, _⟩)
        · exact absurd h h0
        · exact absurd ⟨a, b, c⟩ h1

theorem fits_all {l : List (List UInt8)} : okP (fitB false) 0 l = true ↔ (l = [] ∨ l.length ≤ 32) ∧ ∀ n ∈ l, nameB n = true := by
  rw [okP_iff]
  constructor
  · rintro ⟨h1, h2⟩
    refine ⟨by simpa using h1, fun n hn => ?_⟩
    obtain ⟨i, hi, rfl⟩ := List.mem_iff_getElem.1 hn
    have := h2 i hi
    rw [fit_false, List.getD_eq_getElem?_getD, List.getElem?_eq_getElem hi] at this
    exact this
  · rintro ⟨h1, h2⟩
    refine ⟨by simpa using h1, fun i hi => ?_⟩
    rw [fit_false, List.getD_eq_getElem?_getD, List.getElem?_eq_getElem hi]
    exact h2 _ (List.getElem_mem hi)

/-- a path that joins has its names -/
theorem walk_join {ns : List (List UInt8)} {p : List UInt8} (h : joinR ns = some p) : walkR false p = some ns := by
  rw [join_iff] at h
  rw [walk_iff]
  rcases h with ⟨rfl, rfl⟩ | ⟨h0, h1, h2, h3, rfl⟩
  · exact ⟨[], rfl, by simp, .inl ⟨rfl, rfl⟩⟩
  · match ns, h0 with
    | n :: ns, _ =>
      have hc := cut_join ns n (fun m hm => name_clean (h2 m hm))
      rw [joinL_cons] at h3 ⊢
      refine ⟨n ++ joinL ns, by simp, by simp at h3 ⊢; omega, .inr ⟨?_, hc.symm, fits_all.2 ⟨.inr h1, h2⟩⟩⟩
      intro he
      have hn := h2 n (by simp)
      have hn0 : n = [] := (List.append_eq_nil_iff.1 he).1
      rw [hn0, nil_noName] at hn
      cases hn

/-- names of a path join to it -/
theorem join_walk {ns : List (List UInt8)} {p : List UInt8} (h : walkR false p = some ns) : joinR ns = some p := by
  rw [walk_iff] at h
  rw [join_iff]
  obtain ⟨r, rfl, h1, h2⟩ := h
  rcases h2 with ⟨rfl, rfl⟩ | ⟨h2, h3, h4⟩
  · exact .inl ⟨rfl, rfl⟩
  · have hp := cutW_pos r []
    have hj := join_cut r []
    rw [← h3] at hp hj
    have hne : ns ≠ [] := by intro h0; rw [h0] at hp; simp at hp
    obtain ⟨a, b⟩ := fits_all.1 h4
    refine .inr ⟨hne, ?_, b, ?_, ?_⟩
    · rcases a with a | a
      · exact absurd a hne
      · exact a
    · rw [hj]; simp at h1 ⊢; omega
    · rw [hj]; rfl

/-- a path is a loose path, of the same names -/
theorem walk_loose {ns : List (List UInt8)} {p : List UInt8} (h : walkR false p = some ns) : walkR true p = some ns := by
  rw [walk_iff] at h ⊢
  obtain ⟨r, rfl, h1, h2⟩ := h
  refine ⟨r, rfl, by simp at h1 ⊢; omega, ?_⟩
  rcases h2 with h2 | ⟨h2, h3, h4⟩
  · exact .inl h2
  · refine .inr ⟨h2, h3, ?_⟩
    rw [okP_iff] at h4 ⊢
    refine ⟨h4.1, fun i hi => ?_⟩
    have := h4.2 i hi
    rw [fit_false] at this
    unfold fitB
    rw [this]
    rfl

/-- of names each: the path is one, or it is none -/
theorem join_is (ns : List (List UInt8)) (hne : ns ≠ []) (hn : ∀ n ∈ ns, nameB n = true) : joinR ns = if (walkR false (joinL ns)).isSome = true then some (joinL ns) else none := by
  have hw : ∀ ms, walkR false (joinL ns) = some ms → ms = ns := by
    intro ms h
    rw [walk_iff] at h
    match ns, hne with
    | n :: ns, _ =>
      obtain ⟨r, hr, _, h2⟩ := h
      rw [joinL_cons, List.cons_append] at hr
      injection hr with _ hr
      have hc := cut_join ns n (fun m hm => name_clean (hn m hm))
      rcases h2 with ⟨h2, _⟩ | ⟨_, h2, _⟩
      · subst h2
        have hn0 : n = [] := (List.append_eq_nil_iff.1 hr).1
        have := hn n (by simp)
        rw [hn0, nil_noName] at this
        cases this
      · rw [h2, ← hr, hc]
  cases h : walkR false (joinL ns) with
  | some ms =>
    obtain rfl := hw ms h
    rw [join_walk h]
    rfl
  | none =>
    simp only [Option.isSome_none, Bool.false_eq_true, if_false]
    cases hj : joinR ns with
    | none => rfl
    | some p =>
      have hp := walk_join hj
      rw [join_iff] at hj
      rcases hj with ⟨h0, _⟩ | ⟨_, _, _, _, rfl⟩
      · exact absurd h0 hne
      · rw [h] at hp
        cases hp
/-- and where one of them is no name, it is none -/
theorem join_not {ns : List (List UInt8)} {n : List UInt8} (h : n ∈ ns) (hn : nameB n = false) : joinR ns = none := by
  cases hj : joinR ns with
  | none => rfl
  | some p =>
    rw [join_iff] at hj
    rcases hj with ⟨rfl, _⟩ | ⟨_, _, h2, _⟩
    · cases h
    · rw [h2 n h] at hn
      cases hn

/-- a path has no zero -/
theorem walk_noZero {ns : List (List UInt8)} {p : List UInt8} (h : walkR false p = some ns) : ∀ c ∈ p, c ≠ 0 := by
  have hj := join_walk h
  rw [join_iff] at hj
  rcases hj with ⟨_, rfl⟩ | ⟨_, _, h2, _, rfl⟩
  · simp
  · intro c hc
    simp only [joinL, List.mem_flatten, List.mem_map] at hc
    obtain ⟨x, ⟨n, hn, rfl⟩, hc⟩ := hc
    rcases List.mem_cons.1 hc with rfl | hc
    · decide
    · have := h2 n hn
      simp only [nameB, Bool.and_eq_true, List.all_eq_true] at this
      have := this.2 c hc
      intro h0
      subst h0
      simp [okB] at this

/-- a path that isn't too long for a target leads from the root to its names -/
theorem walk_targ {ns : List (List UInt8)} {p : List UInt8} (h : walkR false p = some ns) (hl : p.length ≤ 100) : leadR p = some (ns, true) := by
  have h0 := walk_noZero h
  have h' := h
  rw [walk_iff] at h'
  obtain ⟨r, rfl, _, _⟩ := h'
  unfold leadR
  rw [if_pos ?_]
  · simp [h]
  · simp only [targB, Bool.and_eq_true, List.all_eq_true]
    refine ⟨⟨by simp, by simpa using hl⟩, fun c hc => ?_⟩
    have := h0 c hc
    simpa using this

/-- a target leads to names and two dots alone; to one at least, where it doesn't lead from the root -/
theorem lead_parts {ns : List (List UInt8)} {b : Bool} {l : List UInt8} (h : leadR l = some (ns, b)) : targB l = true ∧ (b = true → walkR false l = some ns) ∧ (b = false → ns ≠ [] ∧ ∀ n ∈ ns, nameB n = true ∨ n = [46, 46]) := by
  unfold leadR at h
  by_cases h0 : targB l = true
  · rw [if_pos h0] at h
    refine ⟨h0, ?_⟩
    by_cases h1 : l.head? = some 47
    · rw [if_pos h1] at h
      cases hw : walkR false l with
      | none => rw [hw] at h; cases h
      | some ms =>
        rw [hw] at h
        injection h with h
        injection h with h h'
        subst h h'
        exact ⟨fun _ => rfl, fun h => by cases h⟩
    · rw [if_neg h1] at h
      unfold partsR at h
      by_cases h2 : okP stepB 0 (cutW [] l) = true
      · rw [if_pos h2] at h
        injection h with h
        injection h with h h'
        subst h h'
        refine ⟨fun h => by simp at h, fun _ => ⟨?_, fun n hn => ?_⟩⟩
        · intro he
          have := cutW_pos l []
          rw [he] at this
          simp at this
        · rw [okP_iff] at h2
          obtain ⟨i, hi, rfl⟩ := List.mem_iff_getElem.1 hn
          have := h2.2 i hi
          rw [List.getD_eq_getElem?_getD, List.getElem?_eq_getElem hi] at this
          simpa [stepB] using this
      · rw [if_neg h2] at h
        cases h
  · rw [if_neg h0] at h
    cases h
end Go.Proofs.YtoogcejbhehoaaaDoor
