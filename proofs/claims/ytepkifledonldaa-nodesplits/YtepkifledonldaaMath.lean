
/- The plain mathematics of package pack: fixed and short numbers as lists of bytes, and how they are read. -/
namespace Go.Proofs.Ytepkifledonldaa.Pk

/-- a fixed number's bytes, the highest first -/
def fixL (n : Nat) : List Nat := [n / 2 ^ 56 % 256, n / 2 ^ 48 % 256, n / 2 ^ 40 % 256, n / 2 ^ 32 % 256, n / 2 ^ 24 % 256, n / 2 ^ 16 % 256, n / 2 ^ 8 % 256, n % 256]
/-- the number of bytes, the highest first -/
def fixN (l : List Nat) : Nat := l.foldl (fun a b => a * 256 + b) 0
theorem fixL_length (n : Nat) : (fixL n).length = 8 := rfl
theorem fixL_lt (n : Nat) : ∀ b ∈ fixL n, b < 256 := by
  intro b hb
  simp only [fixL, List.mem_cons, List.not_mem_nil, or_false] at hb
  rcases hb with rfl | rfl | rfl | rfl | rfl | rfl | rfl | rfl <;> exact Nat.mod_lt _ (by decide)
theorem fixN_fixL (n : Nat) (h : n < 18446744073709551616) : fixN (fixL n) = n := by
  simp only [fixN, fixL, List.foldl_cons, List.foldl_nil]
  omega
theorem fixN_snoc (l : List Nat) (b : Nat) : fixN (l ++ [b]) = fixN l * 256 + b := by simp [fixN]
theorem fold_lt (l : List Nat) (a : Nat) (hl : ∀ b ∈ l, b < 256) : l.foldl (fun a b => a * 256 + b) a < (a + 1) * 256 ^ l.length := by
  induction l generalizing a with
  | nil => simp
  | cons b t ih =>
    rw [List.foldl_cons, List.length_cons, Nat.pow_succ]
    have h1 := ih (a * 256 + b) (fun c hc => hl c (List.mem_cons_of_mem _ hc))
    have h2 := hl b List.mem_cons_self
    have h3 : (a * 256 + b + 1) * 256 ^ t.length ≤ (a + 1) * 256 * 256 ^ t.length := Nat.mul_le_mul_right _ (by omega)
    have h4 : (a + 1) * (256 ^ t.length * 256) = (a + 1) * 256 * 256 ^ t.length := by rw [Nat.mul_comm (256 ^ t.length) 256, Nat.mul_assoc]
    omega
theorem fixN_lt (l : List Nat) (hl : ∀ b ∈ l, b < 256) : fixN l < 256 ^ l.length := by
  have := fold_lt l 0 hl
  simpa [fixN] using this
theorem fixL_fixN (l : List Nat) (h : l.length = 8) (hl : ∀ b ∈ l, b < 256) : fixL (fixN l) = l := by
  match l, h with
  | [a, b, c, d, e, f, g, i], _ =>
    simp only [List.mem_cons, List.not_mem_nil, or_false, forall_eq_or_imp, forall_eq] at hl
    obtain ⟨ha, hb, hc, hd, he, hf, hg, hi⟩ := hl
    simp only [fixN, fixL, List.foldl_cons, List.foldl_nil, List.cons.injEq, and_true]
    omega

/-- a short number's bytes -/
def shF : Nat → Nat → List Nat
  | 0, n => [n % 128]
  | f + 1, n => if n < 128 then [n] else (n % 128 + 128) :: shF f (n / 128)
def shL (n : Nat) : List Nat := shF 9 n
theorem shF_lt (f n : Nat) : ∀ b ∈ shF f n, b < 256 := by
  induction f generalizing n with
  | zero => intro b hb; simp [shF] at hb; omega
  | succ f ih =>
    intro b hb
    unfold shF at hb
    split at hb
    · simp at hb; omega
    · rcases List.mem_cons.1 hb with h | h
      · omega
      · exact ih _ b h
theorem shL_lt (n : Nat) : ∀ b ∈ shL n, b < 256 := shF_lt 9 n
theorem shF_pos (f n : Nat) : 0 < (shF f n).length := by
  cases f with
  | zero => simp [shF]
  | succ f => unfold shF; split <;> simp
theorem shF_le (f n : Nat) : (shF f n).length ≤ f + 1 := by
  induction f generalizing n with
  | zero => simp [shF]
  | succ f ih =>
    unfold shF
    split
    · simp
    · have := ih (n / 128)
      simp only [List.length_cons]
      omega
theorem shL_pos (n : Nat) : 0 < (shL n).length := shF_pos 9 n
theorem shL_le (n : Nat) : (shL n).length ≤ 10 := shF_le 9 n
theorem shF_small (f n : Nat) (h : n < 128) : shF f n = [n] := by
  cases f with
  | zero => simp [shF]; omega
  | succ f => unfold shF; rw [if_pos h]
theorem shF_big (f n : Nat) (h : ¬ n < 128) : shF (f + 1) n = (n % 128 + 128) :: shF f (n / 128) := by
  rw [shF, if_neg h]

/-- a short number at the front: the number, its size, the error -/
def sc : Nat → List Nat → Nat → Nat → Nat × Nat × Nat
  | 0, _, _, _ => (0, 0, 21)
  | _ + 1, [], _, _ => (0, 0, 20)
  | f + 1, b :: t, i, n => if (i = 9 ∧ 1 < b) ∨ (0 < i ∧ b = 0) then (0, 0, 21) else if b < 128 then (n + b * 2 ^ (7 * i), i + 1, 0) else sc f t (i + 1) (n + (b - 128) * 2 ^ (7 * i))
def scan (l : List Nat) : Nat × Nat × Nat := sc 10 l 0 0

theorem pow_step (i : Nat) : 2 ^ (7 * (i + 1)) = 128 * 2 ^ (7 * i) := by
  rw [show 7 * (i + 1) = 7 * i + 7 by omega, Nat.pow_add]
  omega

theorem sc_back (f i m a : Nat) (r : List Nat) (hi : i + f = 9) (hm : m < 2 ^ (7 * f + 1)) (h0 : i = 0 ∨ m ≠ 0) :
    sc (f + 1) (shF f m ++ r) i a = (a + m * 2 ^ (7 * i), i + (shF f m).length, 0) := by
  induction f generalizing i m a with
  | zero =>
    have h1 : m < 2 := by simpa using hm
    rw [shF_small 0 m (by omega)]
    simp only [List.cons_append, List.nil_append, sc, List.length_singleton]
    rw [if_neg (by omega), if_pos (by omega)]
  | succ f ih =>
    by_cases h : m < 128
    · rw [shF_small _ m h]
      simp only [List.cons_append, List.nil_append, List.length_singleton]
      rw [sc, if_neg (by omega), if_pos h]
    · rw [shF_big f m h]
      simp only [List.cons_append, List.length_cons]
      rw [sc, if_neg (by omega), if_neg (by omega)]
      have hm' : m / 128 < 2 ^ (7 * f + 1) := by
        have : 2 ^ (7 * (f + 1) + 1) = 128 * 2 ^ (7 * f + 1) := by rw [show 7 * (f + 1) + 1 = (7 * f + 1) + 7 by omega, Nat.pow_add]; omega
        omega
      rw [ih (i + 1) (m / 128) _ (by omega) hm' (by omega), pow_step]
      generalize 2 ^ (7 * i) = p
      have e : m % 128 + 128 - 128 = m % 128 := by omega
      rw [e]
      have e2 : m * p = m % 128 * p + m / 128 * (128 * p) := by
        have : m = m % 128 + m / 128 * 128 := by omega
        calc m * p = (m % 128 + m / 128 * 128) * p := by rw [← this]
          _ = m % 128 * p + m / 128 * (128 * p) := by rw [Nat.add_mul, Nat.mul_assoc]
      rw [e2]
      refine Prod.ext ?_ (Prod.ext ?_ rfl)
      · show a + m % 128 * p + m / 128 * (128 * p) = a + (m % 128 * p + m / 128 * (128 * p))
        omega
      · show i + 1 + (shF f (m / 128)).length = i + ((shF f (m / 128)).length + 1)
        omega
theorem scan_back (n : Nat) (r : List Nat) (h : n < 18446744073709551616) : scan (shL n ++ r) = (n, (shL n).length, 0) := by
  have := sc_back 9 0 n 0 r rfl (by simpa using h) (.inl rfl)
  simp only [Nat.zero_add, Nat.mul_zero, Nat.pow_zero, Nat.mul_one] at this
  exact this

theorem sc_cut (f i m a j : Nat) (hi : i + f = 9) (hj : j < (shF f m).length) (_h0 : i = 0 ∨ m ≠ 0) : sc (f + 1) ((shF f m).take j) i a = (0, 0, 20) := by
  induction f generalizing i m a j with
  | zero =>
    have : j = 0 := by simp [shF] at hj; omega
    subst this
    rfl
  | succ f ih =>
    cases j with
    | zero => rfl
    | succ j =>
      by_cases h : m < 128
      · rw [shF_small _ m h] at hj
        simp at hj
      · rw [shF_big f m h] at hj ⊢
        simp only [List.length_cons] at hj
        rw [List.take_succ_cons, sc, if_neg (by omega), if_neg (by omega)]
        exact ih (i + 1) (m / 128) _ j (by omega) (by omega) (by omega)
theorem scan_cut (n j : Nat) (h : j < (shL n).length) : scan ((shL n).take j) = (0, 0, 20) := sc_cut 9 0 n 0 j rfl h (.inl rfl)

/-- what is read has just these bytes -/
theorem sc_one (f i a : Nat) (l : List Nat) (hl : ∀ b ∈ l, b < 256) (hi : i + f = 9) :
    (∃ m, sc (f + 1) l i a = (a + m * 2 ^ (7 * i), i + (shF f m).length, 0) ∧ m < 2 ^ (7 * f + 1) ∧ (i = 0 ∨ m ≠ 0) ∧ (shF f m).length ≤ l.length ∧ l.take (shF f m).length = shF f m) ∨
      sc (f + 1) l i a = (0, 0, 20) ∨ sc (f + 1) l i a = (0, 0, 21) := by
  induction f generalizing i a l with
  | zero =>
    cases l with
    | nil => exact .inr (.inl rfl)
    | cons b t =>
      by_cases hw : (i = 9 ∧ 1 < b) ∨ (0 < i ∧ b = 0)
      · exact .inr (.inr (by rw [sc, if_pos hw]))
      · refine .inl ⟨b, ?_⟩
        have hb : b < 2 := by omega
        rw [shF_small 0 b (by omega), sc, if_neg hw, if_pos (by omega)]
        refine ⟨rfl, by simpa using hb, by omega, by simp, by simp⟩
  | succ f ih =>
    cases l with
    | nil => exact .inr (.inl rfl)
    | cons b t =>
      have hb := hl b List.mem_cons_self
      have ht : ∀ c ∈ t, c < 256 := fun c hc => hl c (List.mem_cons_of_mem _ hc)
      have hp : 2 ^ (7 * (f + 1) + 1) = 128 * 2 ^ (7 * f + 1) := by rw [show 7 * (f + 1) + 1 = (7 * f + 1) + 7 by omega, Nat.pow_add]; omega
      have hp1 : 0 < 2 ^ (7 * f + 1) := Nat.pow_pos (by decide)
      by_cases hw : (i = 9 ∧ 1 < b) ∨ (0 < i ∧ b = 0)
      · exact .inr (.inr (by rw [sc, if_pos hw]))
      · by_cases h : b < 128
        · refine .inl ⟨b, ?_⟩
          rw [shF_small _ b h, sc, if_neg hw, if_pos h]
          exact ⟨rfl, by omega, by omega, by simp, by simp⟩
        · rw [sc, if_neg hw, if_neg h]
          rcases ih (i + 1) (a + (b - 128) * 2 ^ (7 * i)) t ht (by omega) with ⟨m, e, hm, h0, hlen, htk⟩ | h20 | h21
          · refine .inl ⟨b - 128 + 128 * m, ?_⟩
            have hbig : ¬ b - 128 + 128 * m < 128 := by omega
            have e1 : (b - 128 + 128 * m) % 128 + 128 = b := by omega
            have e2 : (b - 128 + 128 * m) / 128 = m := by omega
            rw [shF_big f _ hbig, e1, e2, e, pow_step]
            refine ⟨?_, by omega, by omega, by simp only [List.length_cons]; omega, by rw [List.length_cons, List.take_succ_cons, htk]⟩
            generalize 2 ^ (7 * i) = p
            refine Prod.ext ?_ (Prod.ext ?_ rfl)
            · show a + (b - 128) * p + m * (128 * p) = a + (b - 128 + 128 * m) * p
              rw [Nat.add_mul, Nat.mul_comm 128 m, Nat.mul_assoc]
              omega
            · show i + 1 + (shF f m).length = i + ((shF f m).length + 1)
              omega
          · exact .inr (.inl h20)
          · exact .inr (.inr h21)
theorem scan_one (l : List Nat) (hl : ∀ b ∈ l, b < 256) :
    (∃ n, scan l = (n, (shL n).length, 0) ∧ n < 18446744073709551616 ∧ (shL n).length ≤ l.length ∧ l.take (shL n).length = shL n) ∨ scan l = (0, 0, 20) ∨ scan l = (0, 0, 21) := by
  rcases sc_one 9 0 0 l hl rfl with ⟨m, e, hm, _, h1, h2⟩ | h | h
  · refine .inl ⟨m, ?_, by simpa using hm, h1, h2⟩
    simp only [Nat.zero_add, Nat.mul_zero, Nat.pow_zero, Nat.mul_one] at e
    exact e
  · exact .inr (.inl h)
  · exact .inr (.inr h)

theorem shL_inj (a b : Nat) (ha : a < 18446744073709551616) (hb : b < 18446744073709551616) (h : shL a = shL b) : a = b := by
  have h1 := scan_back a [] ha
  have h2 := scan_back b [] hb
  rw [h, h2] at h1
  exact (Prod.ext_iff.1 h1).1.symm
theorem fixL_inj (a b : Nat) (ha : a < 18446744073709551616) (hb : b < 18446744073709551616) (h : fixL a = fixL b) : a = b := by
  have := congrArg fixN h
  rwa [fixN_fixL a ha, fixN_fixL b hb] at this
end Go.Proofs.Ytepkifledonldaa.Pk
