/- The plain mathematics of the check of bytes: a shift of a register, whole bytes, half bytes by a table, a message as one number. No program is spoken of here. -/
import Derived.Laws.BitsAllLaws
namespace Go.Proofs.YtdkgifjmahkiaaaDoor.L4.Crc

/-- one shift down: the bit that goes out puts the constant on the register -/
def sh (x : Nat) : Nat := if x % 2 = 1 then (x / 2) ^^^ 2197175160 else x / 2
def shn : Nat → Nat → Nat
  | 0, x => x
  | n + 1, x => shn n (sh x)

theorem xac (a b c d : Nat) : (a ^^^ b) ^^^ (c ^^^ d) = (a ^^^ c) ^^^ (b ^^^ d) := by
  rw [Nat.xor_assoc, Nat.xor_assoc, ← Nat.xor_assoc b c d, Nat.xor_comm b c, Nat.xor_assoc c b d]

theorem sh_xor (x y : Nat) : sh (x ^^^ y) = sh x ^^^ sh y := by
  have hd : (x ^^^ y) / 2 = x / 2 ^^^ y / 2 := Nat.xor_div_two
  have hm : (x ^^^ y) % 2 = (x + y) % 2 := by
    have h : (x ^^^ y) % 2 = (x % 2) ^^^ (y % 2) := Nat.xor_mod_two_pow (n := 1)
    rw [h]
    rcases Nat.mod_two_eq_zero_or_one x with h1 | h1 <;> rcases Nat.mod_two_eq_zero_or_one y with h2 | h2 <;> rw [h1, h2] <;> simp <;> omega
  unfold sh
  rw [hd, hm]
  by_cases h1 : x % 2 = 1 <;> by_cases h2 : y % 2 = 1
  · rw [if_neg (by omega), if_pos h1, if_pos h2, xac, Nat.xor_self, Nat.xor_zero]
  · rw [if_pos (by omega), if_pos h1, if_neg h2, Nat.xor_assoc, Nat.xor_comm (y / 2), ← Nat.xor_assoc]
  · rw [if_pos (by omega), if_neg h1, if_pos h2, Nat.xor_assoc]
  · rw [if_neg (by omega), if_neg h1, if_neg h2]

theorem shn_xor (n x y : Nat) : shn n (x ^^^ y) = shn n x ^^^ shn n y := by
  induction n generalizing x y with
  | zero => rfl
  | succ n ih => show shn n (sh (x ^^^ y)) = _; rw [sh_xor, ih]; rfl

theorem shn_add (m n x : Nat) : shn (m + n) x = shn n (shn m x) := by
  induction m generalizing x with
  | zero => simp [shn]
  | succ m ih =>
    have e : m + 1 + n = (m + n) + 1 := by omega
    rw [e]
    show shn (m + n) (sh x) = shn n (shn m (sh x))
    rw [ih]

theorem sh_two (y : Nat) : sh (y * 2) = y := by
  unfold sh
  rw [if_neg (by omega)]
  omega

theorem shn_pow (n y : Nat) : shn n (y * 2 ^ n) = y := by
  induction n generalizing y with
  | zero => simp [shn]
  | succ n ih =>
    show shn n (sh (y * 2 ^ (n + 1))) = y
    have e : y * 2 ^ (n + 1) = (y * 2 ^ n) * 2 := by rw [Nat.pow_succ, Nat.mul_assoc]
    rw [e, sh_two, ih]

theorem sh_lt {x : Nat} (h : x < 4294967296) : sh x < 4294967296 := by
  unfold sh
  split
  · have : x / 2 ^^^ 2197175160 < 2 ^ 32 := Nat.xor_lt_two_pow (by omega) (by decide)
    simpa using this
  · omega

theorem sh_ne {x : Nat} (h : x < 4294967296) (h0 : x ≠ 0) : sh x ≠ 0 := by
  unfold sh
  split
  · intro he
    have : x / 2 = 2197175160 := by
      have h2 := congrArg (· ^^^ 2197175160) he
      simpa [Nat.xor_assoc, Nat.xor_self] using h2
    omega
  · omega

theorem shn_lt (n : Nat) {x : Nat} (h : x < 4294967296) : shn n x < 4294967296 := by
  induction n generalizing x with
  | zero => exact h
  | succ n ih => exact ih (sh_lt h)

theorem shn_ne (n : Nat) {x : Nat} (h : x < 4294967296) (h0 : x ≠ 0) : shn n x ≠ 0 := by
  induction n generalizing x with
  | zero => exact h0
  | succ n ih => exact ih (sh_lt h) (sh_ne h h0)

/-- a whole byte -/
def bstep (s b : Nat) : Nat := shn 8 (s ^^^ b)
def run (s : Nat) (l : List Nat) : Nat := l.foldl bstep s
/-- the bytes as one number, the first byte lowest -/
def msg : List Nat → Nat
  | [] => 0
  | b :: l => b ^^^ (msg l * 256)

theorem run_nil (s : Nat) : run s [] = s := rfl
theorem run_cons (s b : Nat) (l : List Nat) : run s (b :: l) = run (bstep s b) l := rfl
theorem run_append (s : Nat) (l r : List Nat) : run s (l ++ r) = run (run s l) r := by simp [run, List.foldl_append]
theorem run_snoc (s b : Nat) (l : List Nat) : run s (l ++ [b]) = bstep (run s l) b := by rw [run_append]; rfl

theorem bstep_lt {s b : Nat} (hs : s < 4294967296) (hb : b < 256) : bstep s b < 4294967296 := by
  have : s ^^^ b < 2 ^ 32 := Nat.xor_lt_two_pow (by omega) (by omega)
  exact shn_lt 8 (by simpa using this)
theorem run_lt {s : Nat} (l : List Nat) (hs : s < 4294967296) (hl : ∀ b ∈ l, b < 256) : run s l < 4294967296 := by
  induction l generalizing s with
  | nil => exact hs
  | cons b l ih => exact ih (bstep_lt hs (hl b (by simp))) (fun x hx => hl x (by simp [hx]))

theorem run_eq (s : Nat) (l : List Nat) : run s l = shn (8 * l.length) (s ^^^ msg l) := by
  induction l generalizing s with
  | nil => simp [run, msg, shn]
  | cons b l ih =>
    rw [run_cons, ih]
    have e : 8 * (b :: l).length = 8 + 8 * l.length := by simp; omega
    rw [e, shn_add]
    congr 1
    show bstep s b ^^^ msg l = shn 8 (s ^^^ (b ^^^ msg l * 256))
    rw [← Nat.xor_assoc, shn_xor 8 (s ^^^ b), show (256 : Nat) = 2 ^ 8 from rfl, shn_pow]
    rfl

/-- half a byte at a time, by the table -/
def tabN : List Nat := [0, 274646895, 549293790, 820201905, 1098587580, 1361435347, 1640403810, 1905808397, 2197175160, 2460548119, 2722870694, 2987750089, 3280807620, 3553878443, 3811616794, 4084100981]
def tab (i : Nat) : Nat := tabN.getD i 0
theorem tab_lt (i : Nat) : tab i < 4294967296 := by
  by_cases h : i < 16
  · have : ∀ j : Fin 16, tab j.val < 4294967296 := by decide
    exact this ⟨i, h⟩
  · have : tab i = 0 := by
      unfold tab
      rw [List.getD_eq_getElem?_getD, List.getElem?_eq_none (by simp [tabN]; omega)]
      rfl
    omega
theorem tab_sh : ∀ j : Fin 16, shn 4 j.val = tab j.val := by decide

theorem split_low (x n : Nat) : x = (x / 2 ^ n * 2 ^ n) ^^^ (x % 2 ^ n) := by
  apply Nat.eq_of_testBit_eq
  intro i
  rw [Nat.testBit_xor, Nat.testBit_mod_two_pow, Nat.testBit_mul_two_pow, Nat.testBit_div_two_pow]
  by_cases h : i < n
  · simp [h, Nat.not_le.2 h]
  · have h' : n ≤ i := Nat.le_of_not_lt h
    simp [h, h', Nat.sub_add_cancel h']

def half (x : Nat) : Nat := x / 16 ^^^ tab (x % 16)
theorem half_eq (x : Nat) : half x = shn 4 x := by
  have h := split_low x 4
  have e : shn 4 x = shn 4 ((x / 2 ^ 4 * 2 ^ 4) ^^^ (x % 2 ^ 4)) := by rw [← h]
  rw [e, shn_xor, shn_pow]
  have := tab_sh ⟨x % 16, by omega⟩
  show x / 16 ^^^ tab (x % 16) = x / 16 ^^^ shn 4 (x % 16)
  rw [this]
theorem halves_eq (s b : Nat) : half (half (s ^^^ b)) = bstep s b := by
  rw [half_eq, half_eq, ← shn_add]
  rfl
theorem half_lt {x : Nat} (h : x < 4294967296) : half x < 4294967296 := by rw [half_eq]; exact shn_lt 4 h

/-- the sum, and the sum with more behind -/
def more (c : Nat) (l : List Nat) : Nat := run (c ^^^ 4294967295) l ^^^ 4294967295
def sum (l : List Nat) : Nat := more 0 l
theorem not_lt {c : Nat} (h : c < 4294967296) : c ^^^ 4294967295 < 4294967296 := by
  have : c ^^^ 4294967295 < 2 ^ 32 := Nat.xor_lt_two_pow (by omega) (by decide)
  simpa using this
theorem not_not (c : Nat) : (c ^^^ 4294967295) ^^^ 4294967295 = c := by rw [Nat.xor_assoc, Nat.xor_self, Nat.xor_zero]
theorem more_lt {c : Nat} (l : List Nat) (h : c < 4294967296) (hl : ∀ b ∈ l, b < 256) : more c l < 4294967296 := not_lt (run_lt l (not_lt h) hl)
theorem more_nil (c : Nat) : more c [] = c := not_not c
theorem more_append (c : Nat) (l r : List Nat) : more c (l ++ r) = more (more c l) r := by
  unfold more
  rw [run_append, not_not]
theorem sum_lt (l : List Nat) (hl : ∀ b ∈ l, b < 256) : sum l < 4294967296 := more_lt l (by decide) hl
theorem sum_append (l r : List Nat) : sum (l ++ r) = more (sum l) r := more_append 0 l r

/-- 123456789 -/
theorem sum_known : sum [49, 50, 51, 52, 53, 54, 55, 56, 57] = 3808858755 := by decide +kernel

/-- a byte with bits put on it, exclusively -/
theorem msg_set (l : List Nat) (j x : Nat) (h : j < l.length) : msg (l.set j (l[j] ^^^ x)) = msg l ^^^ (x * 2 ^ (8 * j)) := by
  induction l generalizing j with
  | nil => exact absurd h (by simp)
  | cons b l ih =>
    cases j with
    | zero =>
      show (b ^^^ x) ^^^ (msg l * 256) = (b ^^^ (msg l * 256)) ^^^ (x * 2 ^ 0)
      rw [Nat.pow_zero, Nat.mul_one, Nat.xor_assoc, Nat.xor_comm x, ← Nat.xor_assoc]
    | succ j =>
      have hj : j < l.length := by simpa using h
      have := ih j hj
      show b ^^^ (msg (l.set j (l[j] ^^^ x)) * 256) = (b ^^^ (msg l * 256)) ^^^ (x * 2 ^ (8 * (j + 1)))
      rw [this, Nat.xor_assoc]
      have e : x * 2 ^ (8 * (j + 1)) = (x * 2 ^ (8 * j)) * 256 := by rw [Nat.mul_succ, Nat.pow_add, Nat.mul_assoc]
      rw [e]
      congr 1
      rw [show (256 : Nat) = 2 ^ 8 from rfl]
      apply Nat.eq_of_testBit_eq
      intro i
      simp only [Nat.testBit_xor, Nat.testBit_mul_two_pow]
      by_cases h : 8 ≤ i <;> simp [h]

theorem pow_xor (a b n : Nat) : (a ^^^ b) * 2 ^ n = (a * 2 ^ n) ^^^ (b * 2 ^ n) := by
  apply Nat.eq_of_testBit_eq
  intro i
  simp only [Nat.testBit_xor, Nat.testBit_mul_two_pow]
  by_cases h : n ≤ i <;> simp [h]

/-- TURNED BITS: another sum -/
theorem sum_turned {l l' : List Nat} (hlen : l'.length = l.length) (m at' : Nat) (hm : m < 4294967296) (h0 : m ≠ 0) (hat : at' ≤ 8 * l.length)
    (h : msg l' = msg l ^^^ (m * 2 ^ at')) : sum l' ≠ sum l := by
  intro he
  have h1 : run 4294967295 l' = run 4294967295 l := by
    have := congrArg (· ^^^ 4294967295) he
    simpa [sum, more, not_not] using this
  rw [run_eq, run_eq, hlen, h, ← Nat.xor_assoc, shn_xor] at h1
  have h2 : shn (8 * l.length) (m * 2 ^ at') = 0 := by
    have := congrArg (shn (8 * l.length) (4294967295 ^^^ msg l) ^^^ ·) h1
    simpa [← Nat.xor_assoc, Nat.xor_self] using this
  have e : 8 * l.length = at' + (8 * l.length - at') := by omega
  rw [e, shn_add, shn_pow] at h2
  exact shn_ne _ hm h0 h2

/-- three texts -/
theorem msg_three : ∀ (a b c d : List Nat), b.length = a.length → c.length = a.length → d.length = a.length → (∀ i, i < a.length → d.getD i 0 = a.getD i 0 ^^^ b.getD i 0 ^^^ c.getD i 0) → msg d = msg a ^^^ msg b ^^^ msg c
  | [], [], [], [], _, _, _, _ => rfl
  | x :: a, y :: b, z :: c, u :: d, hb, hc, hd, h => by
    have ih := msg_three a b c d (by simpa using hb) (by simpa using hc) (by simpa using hd) (fun i hi => by simpa using h (i + 1) (by simpa using hi))
    have h0 : u = x ^^^ y ^^^ z := by simpa using h 0 (by simp)
    show u ^^^ (msg d * 256) = (x ^^^ (msg a * 256)) ^^^ (y ^^^ (msg b * 256)) ^^^ (z ^^^ (msg c * 256))
    rw [ih, h0, show (256 : Nat) = 2 ^ 8 from rfl, pow_xor, pow_xor, xac (x ^^^ y), xac x]
theorem sum_three (a b c d : List Nat) (hb : b.length = a.length) (hc : c.length = a.length) (hd : d.length = a.length) (h : ∀ i, i < a.length → d.getD i 0 = a.getD i 0 ^^^ b.getD i 0 ^^^ c.getD i 0) :
    sum d = sum a ^^^ sum b ^^^ sum c := by
  have hm := msg_three a b c d hb hc hd h
  have e : ∀ l : List Nat, l.length = a.length → sum l = shn (8 * a.length) (4294967295) ^^^ shn (8 * a.length) (msg l) ^^^ 4294967295 := fun l hl => by
    unfold sum more
    rw [run_eq, hl, shn_xor]
    rfl
  rw [e d hd, e a rfl, e b hb, e c hc, hm, shn_xor, shn_xor]
  generalize shn (8 * a.length) 4294967295 = P
  generalize shn (8 * a.length) (msg a) = A
  generalize shn (8 * a.length) (msg b) = B
  generalize shn (8 * a.length) (msg c) = C
  apply Nat.eq_of_testBit_eq
  intro i
  simp only [Nat.testBit_xor]
  cases P.testBit i <;> cases A.testBit i <;> cases B.testBit i <;> cases C.testBit i <;> cases (4294967295 : Nat).testBit i <;> rfl
end Go.Proofs.YtdkgifjmahkiaaaDoor.L4.Crc
