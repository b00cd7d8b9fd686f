/- The plain mathematics of fixed numbers: lists of bytes, and how they are read. -/
namespace Go.Proofs.YtdkgifjmahkiaaaDoor.L4.Pk

/-- a fixed number's bytes, the highest first -/
def fixL (n : Nat) : List Nat := [n / 2 ^ 56 % 256, n / 2 ^ 48 % 256, n / 2 ^ 40 % 256, n / 2 ^ 32 % 256, n / 2 ^ 24 % 256, n / 2 ^ 16 % 256, n / 2 ^ 8 % 256, n % 256]
/-- the number of bytes, the highest first -/
def fixN (l : List Nat) : Nat := l.foldl (fun a b => a * 256 + b) 0
theorem fixL_length (n : Nat) : (fixL n).length = 8 := rfl
theorem fixL_lt (n : Nat) : ∀ b ∈ fixL n, b < 256 := by
  intro b hb
  simp only [fixL, List.mem_cons, List.not_mem_nil, or_false] at hb
  rcases hb with rfl | rfl | rfl | rfl | rfl | rfl | rfl | rfl <;> exact Nat.mod_lt _ (by decide)
theorem fixN_fixL (n : Nat) (h : n < 18446744073709551616) : fixN (fixL n) = n := by
  simp only [fixN, fixL, List.foldl_cons, List.foldl_nil]
  omega
theorem fixN_snoc (l : List Nat) (b : Nat) : fixN (l ++ [b]) = fixN l * 256 + b := by simp [fixN]
theorem fold_lt (l : List Nat) (a : Nat) (hl : ∀ b ∈ l, b < 256) : l.foldl (fun a b => a * 256 + b) a < (a + 1) * 256 ^ l.length := by
  induction l generalizing a with
  | nil => simp
  | cons b t ih =>
    rw [List.foldl_cons, List.length_cons, Nat.pow_succ]
    have h1 := ih (a * 256 + b) (fun c hc => hl c (List.mem_cons_of_mem _ hc))
    have h2 := hl b List.mem_cons_self
    have h3 : (a * 256 + b + 1) * 256 ^ t.length ≤ (a + 1) * 256 * 256 ^ t.length := Nat.mul_le_mul_right _ (by omega)
    have h4 : (a + 1) * (256 ^ t.length * 256) = (a + 1) * 256 * 256 ^ t.length := by rw [Nat.mul_comm (256 ^ t.length) 256, Nat.mul_assoc]
    omega
theorem fixN_lt (l : List Nat) (hl : ∀ b ∈ l, b < 256) : fixN l < 256 ^ l.length := by
  have := fold_lt l 0 hl
  simpa [fixN] using this
theorem fixL_fixN (l : List Nat) (h : l.length = 8) (hl : ∀ b ∈ l, b < 256) : fixL (fixN l) = l := by
  match l, h with
  | [a, b, c, d, e, f, g, i], _ =>
    simp only [List.mem_cons, List.not_mem_nil, or_false, forall_eq_or_imp, forall_eq] at hl
    obtain ⟨ha, hb, hc, hd, he, hf, hg, hi⟩ := hl
    simp only [fixN, fixL, List.foldl_cons, List.foldl_nil, List.cons.injEq, and_true]
    omega

end Go.Proofs.YtdkgifjmahkiaaaDoor.L4.Pk
