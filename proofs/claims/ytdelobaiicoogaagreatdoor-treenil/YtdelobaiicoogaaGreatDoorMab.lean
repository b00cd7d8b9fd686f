/- Texts that the proof needs, one behind the other. -/
import Derived.Laws.BitsAllLaws
import Derived.Test.YtdelobaiicoogaaGreatDoorRows
import Derived.WalkKit
import Derived.ProofKit
import Derived.OpenShut
import Derived.WalkLawsBesides
import Derived.WalkSpells
import Derived.Outline
import Derived.Deep.AppendLies
import Derived.Laws.BytesArg
import Derived.BigFrame
/- The plain mathematics of the check of bytes: a shift of a register, whole bytes, half bytes by a table, a message as one number. No program is spoken of here. -/
namespace Go.Proofs.YtdelobaiicoogaaGreatDoor.L4.Crc

/-- one shift down: the bit that goes out puts the constant on the register -/
def sh (x : Nat) : Nat := if x % 2 = 1 then (x / 2) ^^^ 2197175160 else x / 2
def shn : Nat → Nat → Nat
  | 0, x => x
  | n + 1, x => shn n (sh x)

theorem xac (a b c d : Nat) : (a ^^^ b) ^^^ (c ^^^ d) = (a ^^^ c) ^^^ (b ^^^ d) := by
  rw [Nat.xor_assoc, Nat.xor_assoc, ← Nat.xor_assoc b c d, Nat.xor_comm b c, Nat.xor_assoc c b d]

theorem sh_xor (x y : Nat) : sh (x ^^^ y) = sh x ^^^ sh y := by
  have hd : (x ^^^ y) / 2 = x / 2 ^^^ y / 2 := Nat.xor_div_two
  have hm : (x ^^^ y) % 2 = (x + y) % 2 := by
    have h : (x ^^^ y) % 2 = (x % 2) ^^^ (y % 2) := Nat.xor_mod_two_pow (n := 1)
    rw [h]
    rcases Nat.mod_two_eq_zero_or_one x with h1 | h1 <;> rcases Nat.mod_two_eq_zero_or_one y with h2 | h2 <;> rw [h1, h2] <;> simp <;> omega
  unfold sh
  rw [hd, hm]
  by_cases h1 : x % 2 = 1 <;> by_cases h2 : y % 2 = 1
  · rw [if_neg (by omega), if_pos h1, if_pos h2, xac, Nat.xor_self, Nat.xor_zero]
  · rw [if_pos (by omega), if_pos h1, if_neg h2, Nat.xor_assoc, Nat.xor_comm (y / 2), ← Nat.xor_assoc]
  · rw [if_pos (by omega), if_neg h1, if_pos h2, Nat.xor_assoc]
  · rw [if_neg (by omega), if_neg h1, if_neg h2]

theorem shn_xor (n x y : Nat) : shn n (x ^^^ y) = shn n x ^^^ shn n y := by
  induction n generalizing x y with
  | zero => rfl
  | succ n ih => show shn n (sh (x ^^^ y)) = _; rw [sh_xor, ih]; rfl

theorem shn_add (m n x : Nat) : shn (m + n) x = shn n (shn m x) := by
  induction m generalizing x with
  | zero => simp [shn]
  | succ m ih =>
    have e : m + 1 + n = (m + n) + 1 := by omega
    rw [e]
    show shn (m + n) (sh x) = shn n (shn m (sh x))
    rw [ih]

theorem sh_two (y : Nat) : sh (y * 2) = y := by
  unfold sh
  rw [if_neg (by omega)]
  omega

theorem shn_pow (n y : Nat) : shn n (y * 2 ^ n) = y := by
  induction n generalizing y with
  | zero => simp [shn]
  | succ n ih =>
    show shn n (sh (y * 2 ^ (n + 1))) = y
    have e : y * 2 ^ (n + 1) = (y * 2 ^ n) * 2 := by rw [Nat.pow_succ, Nat.mul_assoc]
    rw [e, sh_two, ih]

theorem sh_lt {x : Nat} (h : x < 4294967296) : sh x < 4294967296 := by
  unfold sh
  split
  · have : x / 2 ^^^ 2197175160 < 2 ^ 32 := Nat.xor_lt_two_pow (by omega) (by decide)
    simpa using this
  · omega

theorem sh_ne {x : Nat} (h : x < 4294967296) (h0 : x ≠ 0) : sh x ≠ 0 := by
  unfold sh
  split
  · intro he
    have : x / 2 = 2197175160 := by
      have h2 := congrArg (· ^^^ 2197175160) he
      simpa [Nat.xor_assoc, Nat.xor_self] using h2
    omega
  · omega

theorem shn_lt (n : Nat) {x : Nat} (h : x < 4294967296) : shn n x < 4294967296 := by
  induction n generalizing x with
  | zero => exact h
  | succ n ih => exact ih (sh_lt h)

theorem shn_ne (n : Nat) {x : Nat} (h : x < 4294967296) (h0 : x ≠ 0) : shn n x ≠ 0 := by
  induction n generalizing x with
  | zero => exact h0
  | succ n ih => exact ih (sh_lt h) (sh_ne h h0)

/-- a whole byte -/
def bstep (s b : Nat) : Nat := shn 8 (s ^^^ b)
def run (s : Nat) (l : List Nat) : Nat := l.foldl bstep s
/-- the bytes as one number, the first byte lowest -/
def msg : List Nat → Nat
  | [] => 0
  | b :: l => b ^^^ (msg l * 256)

theorem run_nil (s : Nat) : run s [] = s := rfl
theorem run_cons (s b : Nat) (l : List Nat) : run s (b :: l) = run (bstep s b) l := rfl
theorem run_append (s : Nat) (l r : List Nat) : run s (l ++ r) = run (run s l) r := by simp [run, List.foldl_append]
theorem run_snoc (s b : Nat) (l : List Nat) : run s (l ++ [b]) = bstep (run s l) b := by rw [run_append]; rfl

theorem bstep_lt {s b : Nat} (hs : s < 4294967296) (hb : b < 256) : bstep s b < 4294967296 := by
  have : s ^^^ b < 2 ^ 32 := Nat.xor_lt_two_pow (by omega) (by omega)
  exact shn_lt 8 (by simpa using this)
theorem run_lt {s : Nat} (l : List Nat) (hs : s < 4294967296) (hl : ∀ b ∈ l, b < 256) : run s l < 4294967296 := by
  induction l generalizing s with
  | nil => exact hs
  | cons b l ih => exact ih (bstep_lt hs (hl b (by simp))) (fun x hx => hl x (by simp [hx]))

theorem run_eq (s : Nat) (l : List Nat) : run s l = shn (8 * l.length) (s ^^^ msg l) := by
  induction l generalizing s with
  | nil => simp [run, msg, shn]
  | cons b l ih =>
    rw [run_cons, ih]
    have e : 8 * (b :: l).length = 8 + 8 * l.length := by simp; omega
    rw [e, shn_add]
    congr 1
    show bstep s b ^^^ msg l = shn 8 (s ^^^ (b ^^^ msg l * 256))
    rw [← Nat.xor_assoc, shn_xor 8 (s ^^^ b), show (256 : Nat) = 2 ^ 8 from rfl, shn_pow]
    rfl

/-- half a byte at a time, by the table -/
def tabN : List Nat := [0, 274646895, 549293790, 820201905, 1098587580, 1361435347, 1640403810, 1905808397, 2197175160, 2460548119, 2722870694, 2987750089, 3280807620, 3553878443, 3811616794, 4084100981]
def tab (i : Nat) : Nat := tabN.getD i 0
theorem tab_lt (i : Nat) : tab i < 4294967296 := by
  by_cases h : i < 16
  · have : ∀ j : Fin 16, tab j.val < 4294967296 := by decide
    exact this ⟨i, h⟩
  · have : tab i = 0 := by
      unfold tab
      rw [List.getD_eq_getElem?_getD, List.getElem?_eq_none (by simp [tabN]; omega)]
      rfl
    omega
theorem tab_sh : ∀ j : Fin 16, shn 4 j.val = tab j.val := by decide

theorem split_low (x n : Nat) : x = (x / 2 ^ n * 2 ^ n) ^^^ (x % 2 ^ n) := by
  apply Nat.eq_of_testBit_eq
  intro i
  rw [Nat.testBit_xor, Nat.testBit_mod_two_pow, Nat.testBit_mul_two_pow, Nat.testBit_div_two_pow]
  by_cases h : i < n
  · simp [h, Nat.not_le.2 h]
  · have h' : n ≤ i := Nat.le_of_not_lt h
    simp [h, h', Nat.sub_add_cancel h']

def half (x : Nat) : Nat := x / 16 ^^^ tab (x % 16)
theorem half_eq (x : Nat) : half x = shn 4 x := by
  have h := split_low x 4
  have e : shn 4 x = shn 4 ((x / 2 ^ 4 * 2 ^ 4) ^^^ (x % 2 ^ 4)) := by rw [← h]
  rw [e, shn_xor, shn_pow]
  have := tab_sh ⟨x % 16, by omega⟩
  show x / 16 ^^^ tab (x % 16) = x / 16 ^^^ shn 4 (x % 16)
  rw [this]
theorem halves_eq (s b : Nat) : half (half (s ^^^ b)) = bstep s b := by
  rw [half_eq, half_eq, ← shn_add]
  rfl
theorem half_lt {x : Nat} (h : x < 4294967296) : half x < 4294967296 := by rw [half_eq]; exact shn_lt 4 h

/-- the sum, and the sum with more behind -/
def more (c : Nat) (l : List Nat) : Nat := run (c ^^^ 4294967295) l ^^^ 4294967295
def sum (l : List Nat) : Nat := more 0 l
theorem not_lt {c : Nat} (h : c < 4294967296) : c ^^^ 4294967295 < 4294967296 := by
  have : c ^^^ 4294967295 < 2 ^ 32 := Nat.xor_lt_two_pow (by omega) (by decide)
  simpa using this
theorem not_not (c : Nat) : (c ^^^ 4294967295) ^^^ 4294967295 = c := by rw [Nat.xor_assoc, Nat.xor_self, Nat.xor_zero]
theorem more_lt {c : Nat} (l : List Nat) (h : c < 4294967296) (hl : ∀ b ∈ l, b < 256) : more c l < 4294967296 := not_lt (run_lt l (not_lt h) hl)
theorem more_nil (c : Nat) : more c [] = c := not_not c
theorem more_append (c : Nat) (l r : List Nat) : more c (l ++ r) = more (more c l) r := by
  unfold more
  rw [run_append, not_not]
theorem sum_lt (l : List Nat) (hl : ∀ b ∈ l, b < 256) : sum l < 4294967296 := more_lt l (by decide) hl
theorem sum_append (l r : List Nat) : sum (l ++ r) = more (sum l) r := more_append 0 l r

/-- 123456789 -/
theorem sum_known : sum [49, 50, 51, 52, 53, 54, 55, 56, 57] = 3808858755 := by decide +kernel

/-- a byte with bits put on it, exclusively -/
theorem msg_set (l : List Nat) (j x : Nat) (h : j < l.length) : msg (l.set j (l[j] ^^^ x)) = msg l ^^^ (x * 2 ^ (8 * j)) := by
  induction l generalizing j with
  | nil => exact absurd h (by simp)
  | cons b l ih =>
    cases j with
    | zero =>
      show (b ^^^ x) ^^^ (msg l * 256) = (b ^^^ (msg l * 256)) ^^^ (x * 2 ^ 0)
      rw [Nat.pow_zero, Nat.mul_one, Nat.xor_assoc, Nat.xor_comm x, ← Nat.xor_assoc]
    | succ j =>
      have hj : j < l.length := by simpa using h
      have := ih j hj
      show b ^^^ (msg (l.set j (l[j] ^^^ x)) * 256) = (b ^^^ (msg l * 256)) ^^^ (x * 2 ^ (8 * (j + 1)))
      rw [this, Nat.xor_assoc]
      have e : x * 2 ^ (8 * (j + 1)) = (x * 2 ^ (8 * j)) * 256 := by rw [Nat.mul_succ, Nat.pow_add, Nat.mul_assoc]
      rw [e]
      congr 1
      rw [show (256 : Nat) = 2 ^ 8 from rfl]
      apply Nat.eq_of_testBit_eq
      intro i
      simp only [Nat.testBit_xor, Nat.testBit_mul_two_pow]
      by_cases h : 8 ≤ i <;> simp [h]

theorem pow_xor (a b n : Nat) : (a ^^^ b) * 2 ^ n = (a * 2 ^ n) ^^^ (b * 2 ^ n) := by
  apply Nat.eq_of_testBit_eq
  intro i
  simp only [Nat.testBit_xor, Nat.testBit_mul_two_pow]
  by_cases h : n ≤ i <;> simp [h]

/-- TURNED BITS: another sum -/
theorem sum_turned {l l' : List Nat} (hlen : l'.length = l.length) (m at' : Nat) (hm : m < 4294967296) (h0 : m ≠ 0) (hat : at' ≤ 8 * l.length)
    (h : msg l' = msg l ^^^ (m * 2 ^ at')) : sum l' ≠ sum l := by
  intro he
  have h1 : run 4294967295 l' = run 4294967295 l := by
    have := congrArg (· ^^^ 4294967295) he
    simpa [sum, more, not_not] using this
  rw [run_eq, run_eq, hlen, h, ← Nat.xor_assoc, shn_xor] at h1
  have h2 : shn (8 * l.length) (m * 2 ^ at') = 0 := by
    have := congrArg (shn (8 * l.length) (4294967295 ^^^ msg l) ^^^ ·) h1
    simpa [← Nat.xor_assoc, Nat.xor_self] using this
  have e : 8 * l.length = at' + (8 * l.length - at') := by omega
  rw [e, shn_add, shn_pow] at h2
  exact shn_ne _ hm h0 h2

/-- three texts -/
theorem msg_three : ∀ (a b c d : List Nat), b.length = a.length → c.length = a.length → d.length = a.length → (∀ i, i < a.length → d.getD i 0 = a.getD i 0 ^^^ b.getD i 0 ^^^ c.getD i 0) → msg d = msg a ^^^ msg b ^^^ msg c
  | [], [], [], [], _, _, _, _ => rfl
  | x :: a, y :: b, z :: c, u :: d, hb, hc, hd, h => by
    have ih := msg_three a b c d (by simpa using hb) (by simpa using hc) (by simpa using hd) (fun i hi => by simpa using h (i + 1) (by simpa using hi))
    have h0 : u = x ^^^ y ^^^ z := by simpa using h 0 (by simp)
    show u ^^^ (msg d * 256) = (x ^^^ (msg a * 256)) ^^^ (y ^^^ (msg b * 256)) ^^^ (z ^^^ (msg c * 256))
    rw [ih, h0, show (256 : Nat) = 2 ^ 8 from rfl, pow_xor, pow_xor, xac (x ^^^ y), xac x]
theorem sum_three (a b c d : List Nat) (hb : b.length = a.length) (hc : c.length = a.length) (hd : d.length = a.length) (h : ∀ i, i < a.length → d.getD i 0 = a.getD i 0 ^^^ b.getD i 0 ^^^ c.getD i 0) :
    sum d = sum a ^^^ sum b ^^^ sum c := by
  have hm := msg_three a b c d hb hc hd h
  have e : ∀ l : List Nat, l.length = a.length → sum l = shn (8 * a.length) (4294967295) ^^^ shn (8 * a.length) (msg l) ^^^ 4294967295 := fun l hl => by
    unfold sum more
    rw [run_eq, hl, shn_xor]
    rfl
  rw [e d hd, e a rfl, e b hb, e c hc, hm, shn_xor, shn_xor]
  generalize shn (8 * a.length) 4294967295 = P
  generalize shn (8 * a.length) (msg a) = A
  generalize shn (8 * a.length) (msg b) = B
  generalize shn (8 * a.length) (msg c) = C
  apply Nat.eq_of_testBit_eq
  intro i
  simp only [Nat.testBit_xor]
  cases P.testBit i <;> cases A.testBit i <;> cases B.testBit i <;> cases C.testBit i <;> cases (4294967295 : Nat).testBit i <;> rfl
end Go.Proofs.YtdelobaiicoogaaGreatDoor.L4.Crc

/- The plain mathematics of fixed numbers: lists of bytes, and how they are read. -/
namespace Go.Proofs.YtdelobaiicoogaaGreatDoor.L4.Pk

/-- a fixed number's bytes, the highest first -/
def fixL (n : Nat) : List Nat := [n / 2 ^ 56 % 256, n / 2 ^ 48 % 256, n / 2 ^ 40 % 256, n / 2 ^ 32 % 256, n / 2 ^ 24 % 256, n / 2 ^ 16 % 256, n / 2 ^ 8 % 256, n % 256]
/-- the number of bytes, the highest first -/
def fixN (l : List Nat) : Nat := l.foldl (fun a b => a * 256 + b) 0
theorem fixL_length (n : Nat) : (fixL n).length = 8 := rfl
theorem fixL_lt (n : Nat) : ∀ b ∈ fixL n, b < 256 := by
  intro b hb
  simp only [fixL, List.mem_cons, List.not_mem_nil, or_false] at hb
  rcases hb with rfl | rfl | rfl | rfl | rfl | rfl | rfl | rfl <;> exact Nat.mod_lt _ (by decide)
theorem fixN_fixL (n : Nat) (h : n < 18446744073709551616) : fixN (fixL n) = n := by
  simp only [fixN, fixL, List.foldl_cons, List.foldl_nil]
  omega
theorem fixN_snoc (l : List Nat) (b : Nat) : fixN (l ++ [b]) = fixN l * 256 + b := by simp [fixN]
theorem fold_lt (l : List Nat) (a : Nat) (hl : ∀ b ∈ l, b < 256) : l.foldl (fun a b => a * 256 + b) a < (a + 1) * 256 ^ l.length := by
  induction l generalizing a with
  | nil => simp
  | cons b t ih =>
    rw [List.foldl_cons, List.length_cons, Nat.pow_succ]
    have h1 := ih (a * 256 + b) (fun c hc => hl c (List.mem_cons_of_mem _ hc))
    have h2 := hl b List.mem_cons_self
    have h3 : (a * 256 + b + 1) * 256 ^ t.length ≤ (a + 1) * 256 * 256 ^ t.length := Nat.mul_le_mul_right _ (by omega)
    have h4 : (a + 1) * (256 ^ t.length * 256) = (a + 1) * 256 * 256 ^ t.length := by rw [Nat.mul_comm (256 ^ t.length) 256, Nat.mul_assoc]
    omega
theorem fixN_lt (l : List Nat) (hl : ∀ b ∈ l, b < 256) : fixN l < 256 ^ l.length := by
  have := fold_lt l 0 hl
  simpa [fixN] using this
theorem fixL_fixN (l : List Nat) (h : l.length = 8) (hl : ∀ b ∈ l, b < 256) : fixL (fixN l) = l := by
  match l, h with
  | [a, b, c, d, e, f, g, i], _ =>
    simp only [List.mem_cons, List.not_mem_nil, or_false, forall_eq_or_imp, forall_eq] at hl
    obtain ⟨ha, hb, hc, hd, he, hf, hg, hi⟩ := hl
    simp only [fixN, fixL, List.foldl_cons, List.foldl_nil, List.cons.injEq, and_true]
    omega

end Go.Proofs.YtdelobaiicoogaaGreatDoor.L4.Pk

/- Bytes of one's own: a slice that a call makes and appends to, and the text that is made of it. -/
namespace Go.Proofs.YtdelobaiicoogaaGreatDoor.L4
open Go.ChangeShapes Go.WideShapes Go.ChangeAt Go.RowKit

theorem hide {p : Prop} (h : p) : Hid p := h
theorem unhide {p : Prop} (h : Hid p) : p := h
theorem ret_int {k : IntKind} {a b : Int} (h : a = b) : Ending.returned (.int k a) = .returned (.int k b) := by rw [h]

/-- a text's bytes as numbers -/
def bn (s : ByteArray) : List Nat := s.data.toList.map UInt8.toNat
theorem bn_length (s : ByteArray) : (bn s).length = s.size := by
  unfold bn
  rw [List.length_map, Array.length_toList]
  rfl
theorem bn_lt (s : ByteArray) : ∀ b ∈ bn s, b < 256 := by
  intro b hb
  obtain ⟨u, _, rfl⟩ := List.mem_map.1 hb
  exact u.toNat_lt
theorem bn_append (s t : ByteArray) : bn (s ++ t) = bn s ++ bn t := by
  unfold bn
  rw [ByteArray.data_append, Array.toList_append, List.map_append]
theorem bn_inj {s t : ByteArray} (h : bn s = bn t) : s = t := by
  unfold bn at h
  apply ByteArray.ext
  have := (List.map_inj_right (f := UInt8.toNat) (fun a b e => UInt8.toNat_inj.1 e)).1 h
  exact Array.toList_inj.1 this
theorem bn_at (s : ByteArray) (k : Nat) (h : k < s.size) : (bn s)[k]? = some s[k].toNat := by
  simp only [bn, List.getElem?_map]
  rw [List.getElem?_eq_getElem (by rw [Array.length_toList]; exact h)]
  rfl

/-- the text of these bytes -/
def strOf (l : List Nat) : ByteArray := strOfNums (l.map fun n : Nat => (n : Int))
theorem bn_strOf (l : List Nat) (h : ∀ b ∈ l, b < 256) : bn (strOf l) = l := by
  unfold bn strOf
  rw [strOfNums_data, List.map_map, List.map_map]
  refine (List.map_congr_left (g := id) (fun b hb => ?_)).trans (List.map_id l)
  have := h b hb
  simp [Function.comp, Nat.mod_eq_of_lt this]
theorem strOf_size (l : List Nat) : (strOf l).size = l.length := by unfold strOf; rw [strOfNums_size, List.length_map]
theorem strOf_bn (s : ByteArray) : strOf (bn s) = s := bn_inj (bn_strOf _ (bn_lt s))

theorem info5 : (Tryz.prog.info? 5).map (fun i => (i.zero, i.size, i.bytes)) = some (some (.int .u8 0), 1, 1) := by kernel_rfl

def cells (l : List Nat) : List Value := l.map fun n : Nat => Value.int .u8 (n : Int)
theorem cells_length (l : List Nat) : (cells l).length = l.length := by simp [cells]
theorem cells_append (l r : List Nat) : cells (l ++ r) = cells l ++ cells r := by simp [cells]

/-- bytes of one's own: a slice in new memory, which nobody else has -/
def Own (base : Nat) (w : World) (v : Value) (l : List Nat) : Prop := w.ownsRow base 5 1 v l.length (cells l)
theorem below_own {B : Nat} {w wr w1 : World} {v : Value} {l : List Nat} {o : Obj} (hB : B ≤ wr.heap.size) (hb : Below B w wr) (hown : Own B wr v l)
    (hg : (wr.alloc o).grownBy w1 v.ownBlock) : Below B w w1 := by
  refine (hb.alloc hB o).grown hg (by simp; omega) ?_
  intro k hk
  exact (World.ownsRow.lt hown k hk).1

/-- append of one byte to what is one's own, as the walk meets it: the byte stands in a new block -/
theorem app_one {ops : Array Oper} {rest : List Oper} {o : Oper} {a : Act} {Q : Exit → Act → World → Prop} {B : Nat} {w wr : World} {v : Value} {l : List Nat} {b : Nat}
    (hwant : Region.wanted o (yielded ops a.tmps) = true) (s x : Operand) (ho : o.op = .call { callee := .builtin .append, args := #[s, x], argTypes := #[140, 140] })
    (hs : a.eval s = v) (hx : a.eval x = .slice (some ⟨wr.heap.size, 0, none⟩) 1 1) (hB : B ≤ wr.heap.size) (hbel : Below B w wr) (hown : Own B wr v l) (hlen : l.length ≤ 1000)
    (h : ∀ a' cap' w', Own B w' (.slice a' (l.length + 1) cap') (l ++ [b]) → Below B w w' → wpList Tryz.prog ops Q rest (a.put o.dst (.slice a' (l.length + 1) cap')) w') :
    wpList Tryz.prog ops Q (o :: rest) a (wr.alloc (.cells #[.int .u8 (b : Int)] 5)) := by
  obtain ⟨i0, hi, hz0, hz1, hz2⟩ := info_parts info5
  obtain ⟨v', w', hr, ho', hg, _⟩ := run_append_own (P := Tryz.prog) (wr.alloc (.cells #[.int .u8 (b : Int)] 5)) B 140 o.type 5 i0 (.int .u8 0) 1 1 Tryz.underlying140 hi hz0 hz1 hz2 rfl (by decide) v l.length (cells l) (World.ownsRow.alloc hown _) ⟨wr.heap.size, 0, none⟩ 1 1 [.int .u8 (b : Int)] rfl
    (fun j u hj => by
      match j, hj with
      | 0, hj => simp at hj; subst hj; simp [Addr.add])
    (fun u hu => by simp at hu; subst hu; rfl) (by unfold maxLen; omega) (by omega) (by simp; omega)
  have hform : ∃ a' cap', v' = .slice a' (l.length + 1) cap' := by
    rcases ho'.2 with ⟨_, hn⟩ | ⟨g, cap, cur, e, _⟩
    · omega
    · exact ⟨_, _, e⟩
  obtain ⟨a', cap', rfl⟩ := hform
  have ho2 : Own B w' (.slice a' (l.length + 1) cap') (l ++ [b]) := by
    unfold Own
    rw [List.length_append, cells_append]
    exact ho'
  have hb2 : Below B w w' := below_own hB hbel hown hg
  refine BigFrame.wpList_want hwant fun K hK => ?_
  unfold Oper.wp execOp
  simp only [ho, resolve, invoke, builtin, Sem.run_bind, Sem.run_pure, Result.andThen_ok, List.map_toArray, List.map_cons, List.map_nil, hs, hx, hr]
  exact hK _ _ (h a' cap' w' ho2 hb2)

/-- string(b), of what is one's own -/
theorem conv_own {B : Nat} {w : World} {v : Value} {l : List Nat} (h : Own B w v l) : (convert 140 9 v).run Tryz.prog w = .ok (.string (strOf l)) w := by
  have h' := h
  obtain ⟨_, ⟨rfl, hn⟩ | ⟨g, cap, cur, rfl, _⟩⟩ := h
  · obtain rfl := List.length_eq_zero_iff.1 hn
    exact run_convert_bytes_nil w 140 5 Tryz.underlying140 Tryz.underlying5 0 0 9 Tryz.underlying9
  · exact run_convert_bytes_arg w 140 5 Tryz.underlying140 Tryz.underlying5 g 0 l.length cap _ (by simp) (fun i hi => by rw [Nat.zero_add, World.ownsRow.cellAt h' i (by omega)]; simp [cells, List.getElem?_eq_getElem hi]) 9 Tryz.underlying9
/-- string(b), of bytes that lie in a row -/
theorem conv_row (g cap : Nat) (l : List Nat) (w : World) (hc : ∀ i, i < l.length → w.cell? ⟨g, i, none⟩ = some (.int .u8 (l.getD i 0 : Nat))) :
    (convert 140 9 (.slice (some ⟨g, 0, none⟩) l.length cap)).run Tryz.prog w = .ok (.string (strOf l)) w :=
  run_convert_bytes_arg w 140 5 Tryz.underlying140 Tryz.underlying5 g 0 l.length cap _ (by simp) (fun i hi => by rw [Nat.zero_add, hc i hi]; simp [List.getElem?_eq_getElem hi]) 9 Tryz.underlying9
end Go.Proofs.YtdelobaiicoogaaGreatDoor.L4

/- What the leaves do: the step of a byte by the table, and the sum of a text and of bytes, for every argument and in every world that holds the table. -/
namespace Go.Proofs.YtdelobaiicoogaaGreatDoor.L4
open Go.ChangeShapes Go.WideShapes Go.ChangeAt Go.RowKit

/-- the table lies in block 0 -/
def Tab (w : World) : Prop := ∀ i, i < 16 → w.cell? ⟨0, i, none⟩ = some (.int .u32 (Crc.tab i : Nat))

theorem and15 (x : Nat) (hx : x < 4294967296) : bits .and .u32 (x : Int) 15 = ((x % 16 : Nat) : Int) := by
  have h := u32_and_nat x 15 hx (by decide)
  have e : x &&& 15 = x % 16 := Nat.and_two_pow_sub_one_eq_mod x 4
  rw [e] at h
  exact h
theorem xor_u32 (a b : Nat) (ha : a < 4294967296) (hb : b < 4294967296) : bits .xor .u32 (a : Int) (b : Int) = ((a ^^^ b : Nat) : Int) := u32_xor_nat a b ha hb


/-- what the two tables' steps come to, in the walk's own spelling -/
def stepI (s b : Int) : Int :=
  bits .xor .u32 (bits .xor .u32 (bits .xor .u32 s b / 16) (Crc.tab (bits .and .u32 (bits .xor .u32 s b) 15).toNat : Nat) / 16)
    (Crc.tab (bits .and .u32 (bits .xor .u32 (bits .xor .u32 s b / 16) (Crc.tab (bits .and .u32 (bits .xor .u32 s b) 15).toNat : Nat)) 15).toNat : Nat)

theorem stepI_eq (s b : Nat) (hs : s < 4294967296) (hb : b < 256) : stepI s b = (Crc.bstep s b : Nat) := by
  have h1 : s ^^^ b < 4294967296 := by
    have : s ^^^ b < 2 ^ 32 := Nat.xor_lt_two_pow (by omega) (by omega)
    simpa using this
  have h2 : Crc.half (s ^^^ b) < 4294967296 := Crc.half_lt h1
  have e1 : bits .xor .u32 ((s : Nat) : Int) (b : Nat) = ((s ^^^ b : Nat) : Int) := xor_u32 s b hs (by omega)
  have step : ∀ x : Nat, x < 4294967296 → bits .xor .u32 ((x : Int) / 16) (Crc.tab (bits .and .u32 (x : Int) 15).toNat : Nat) = ((Crc.half x : Nat) : Int) := by
    intro x hx
    rw [and15 x hx, Int.toNat_natCast]
    have := xor_u32 (x / 16) (Crc.tab (x % 16)) (by omega) (Crc.tab_lt _)
    rw [Int.natCast_ediv] at this
    exact this
  unfold stepI
  rw [e1, step _ h1, step _ h2, Crc.halves_eq]

set_option maxHeartbeats 400000 in
theorem step_raw (s b : Int) (w : World) (c1 c2 : Nat) (hb : 0 ≤ b ∧ b < 256)
    (hi : 0 ≤ bits .and .u32 (bits .xor .u32 s b) 15 ∧ bits .and .u32 (bits .xor .u32 s b) 15 < 16)
    (hc : w.cell? ⟨0, (bits .and .u32 (bits .xor .u32 s b) 15).toNat, none⟩ = some (.int .u32 (c1 : Nat)))
    (hj : 0 ≤ bits .and .u32 (bits .xor .u32 (bits .xor .u32 s b / 16) c1) 15 ∧ bits .and .u32 (bits .xor .u32 (bits .xor .u32 s b / 16) c1) 15 < 16)
    (hd : w.cell? ⟨0, (bits .and .u32 (bits .xor .u32 (bits .xor .u32 s b / 16) c1) 15).toNat, none⟩ = some (.int .u32 (c2 : Nat))) :
    Calls Tryz.prog 169 #[.int .u32 s, .int .u8 b] w fun e w' => e = .returned (.int .u32 (bits .xor .u32 (bits .xor .u32 (bits .xor .u32 s b / 16) c1 / 16) c2)) ∧ w' = w := by
  go_enter Tryz.func169, Tryz.ntmps169
  go_wp2
  all_goals go_ret
  all_goals exact ⟨rfl, rfl⟩

theorem step_any (s b : Int) (w : World) (hT : Tab w) (hs : 0 ≤ s ∧ s < 4294967296) (hb : 0 ≤ b ∧ b < 256) :
    Calls Tryz.prog 169 #[.int .u32 s, .int .u8 b] w fun e w' => e = .returned (.int .u32 (Crc.bstep s.toNat b.toNat : Nat)) ∧ w' = w := by
  obtain ⟨S, rfl⟩ := Int.eq_ofNat_of_zero_le hs.1
  obtain ⟨B, rfl⟩ := Int.eq_ofNat_of_zero_le hb.1
  have hS : S < 4294967296 := by omega
  have hB : B < 256 := by omega
  have h1 : S ^^^ B < 4294967296 := by
    have : S ^^^ B < 2 ^ 32 := Nat.xor_lt_two_pow (by omega) (by omega)
    simpa using this
  have h2 : Crc.half (S ^^^ B) < 4294967296 := Crc.half_lt h1
  have e1 : bits .xor .u32 ((S : Nat) : Int) (B : Nat) = ((S ^^^ B : Nat) : Int) := xor_u32 S B hS (by omega)
  have e2 : bits .xor .u32 (((S ^^^ B : Nat) : Int) / 16) (Crc.tab ((S ^^^ B) % 16) : Nat) = ((Crc.half (S ^^^ B) : Nat) : Int) := by
    have := xor_u32 ((S ^^^ B) / 16) (Crc.tab ((S ^^^ B) % 16)) (by omega) (Crc.tab_lt _)
    rw [Int.natCast_ediv] at this
    exact this
  have e3 := stepI_eq S B hS hB
  have a1 := and15 (S ^^^ B) h1
  have a2 := and15 (Crc.half (S ^^^ B)) h2
  have H := step_raw S B w (Crc.tab ((S ^^^ B) % 16)) (Crc.tab (Crc.half (S ^^^ B) % 16)) hb
    (by rw [e1, a1]; omega) (by rw [e1, a1, Int.toNat_natCast]; exact hT _ (by omega))
    (by rw [e1, e2, a2]; omega) (by rw [e1, e2, a2, Int.toNat_natCast]; exact hT _ (by omega))
  refine H.mono fun e w' ⟨he, hw⟩ => ⟨?_, hw⟩
  rw [he, Int.toNat_natCast, Int.toNat_natCast, ← e3]
  unfold stepI
  rw [e1, a1, Int.toNat_natCast, e2, a2, Int.toNat_natCast]

theorem bn_take_lt (s : ByteArray) (k : Nat) : ∀ b ∈ (bn s).take k, b < 256 := fun b hb => bn_lt s b (List.mem_of_mem_take hb)
theorem bn_snoc (s : ByteArray) (k : Nat) (h : k < s.size) : (bn s).take (k + 1) = (bn s).take k ++ [s[k].toNat] := by
  rw [List.take_succ_eq_append_getElem (by rw [bn_length]; exact h)]
  simp only [bn, List.getElem_map]
  rfl

theorem not_u32 (n : Nat) (h : n < 4294967296) : bits .xor .u32 IntKind.u32.max (n : Int) = ((n ^^^ 4294967295 : Nat) : Int) := by
  have := xor_u32 4294967295 n (by decide) h
  rw [Nat.xor_comm] at this
  exact this

set_option maxHeartbeats 400000 in
theorem text_any (s : ByteArray) (w : World) (hT : Tab w) (hs : s.size ≤ maxLen) :
    Calls Tryz.prog 138 #[.string s] w fun e w' => e = .returned (.int .u32 (Crc.sum (bn s) : Nat)) ∧ w' = w := by
  unfold maxLen at hs
  have HT : Hid (Tab w) := hT
  clear hT
  go_enter Tryz.func138, Tryz.ntmps138
  go_wp2
  go_loop [3, 7] (fun t i => ∃ k : Nat, k ≤ s.size ∧ i = .int .i64 k ∧ t = .int .u32 (Crc.run 4294967295 ((bn s).take k) : Nat)) (fun _ i => s.size - (intOf i).toNat)
  case atStart => exact ⟨0, Nat.zero_le _, rfl, rfl⟩
  case round =>
    obtain ⟨k, hk, rfl, rfl⟩ := hrel
    have hr : Crc.run 4294967295 ((bn s).take k) < 4294967296 := Crc.run_lt _ (by decide) (bn_take_lt s k)
    by_cases hlt : k < s.size
    · have hb : (s[k].toNat : Int) < 256 := by have := s[k].toNat_lt; omega
      have HS : Hid (Crc.run 4294967295 ((bn s).take (k + 1)) = Crc.bstep (Crc.run 4294967295 ((bn s).take k)) s[k].toNat) := by
        show _ = _
        rw [bn_snoc s k hlt, Crc.run_snoc]
      generalize Crc.run 4294967295 ((bn s).take k) = r at *
      go_wp2_with (go_at_call 169; refine (step_any _ _ _ HT.out (by omega) (by omega)).mono ?_; rintro e w' ⟨rfl, rfl⟩)
      go_round
      case rel => exact ⟨k + 1, by omega, by go_num, by rw [HS.out]⟩
      case measure => simp [intOf]; omega
    · go_wp2
      go_ret
      refine ⟨ret_int ?_, rfl⟩
      have hall : (bn s).take k = bn s := List.take_of_length_le (by rw [bn_length]; omega)
      rw [hall] at hr ⊢
      exact not_u32 _ hr

/-- THE DOCUMENT's: eight shifts a byte -/
theorem and1 (x : Nat) (hx : x < 4294967296) : bits .and .u32 (x : Int) 1 = ((x % 2 : Nat) : Int) := by
  have h := u32_and_nat x 1 hx (by decide)
  rw [Nat.and_one_is_mod] at h
  exact h

theorem shn_succ (k x : Nat) : Crc.shn (k + 1) x = Crc.sh (Crc.shn k x) := by rw [Crc.shn_add]; rfl
theorem sh_odd (y : Nat) (h : y % 2 = 1) (hy : y < 4294967296) : bits .xor .u32 ((y : Int) / 2) 2197175160 = ((Crc.sh y : Nat) : Int) := by
  have := xor_u32 (y / 2) 2197175160 (by omega) (by decide)
  rw [Int.natCast_ediv] at this
  unfold Crc.sh
  rw [if_pos h]
  exact this
theorem sh_even (y : Nat) (h : ¬ y % 2 = 1) : (y : Int) / 2 = ((Crc.sh y : Nat) : Int) := by
  unfold Crc.sh
  rw [if_neg h]
  omega

set_option maxHeartbeats 400000 in
theorem refMore_any (c : Int) (s : ByteArray) (w : World) (hc : 0 ≤ c ∧ c < 4294967296) (hs : s.size ≤ maxLen) :
    Calls Tryz.prog 111 #[.int .u32 c, .string s] w fun e w' => e = .returned (.int .u32 (Crc.more c.toNat (bn s) : Nat)) ∧ w' = w := by
  unfold maxLen at hs
  obtain ⟨C, rfl⟩ := Int.eq_ofNat_of_zero_le hc.1
  have hC : C < 4294967296 := by omega
  have hn := not_u32 C hC
  have hnl := Crc.not_lt hC
  rw [Int.toNat_natCast]
  go_enter Tryz.func111, Tryz.ntmps111
  go_wp2
  go_loop [0, 5] (fun t i => ∃ k : Nat, k ≤ s.size ∧ i = .int .i64 k ∧ t = .int .u32 (Crc.run (C ^^^ 4294967295) ((bn s).take k) : Nat)) (fun _ i => s.size - (intOf i).toNat)
  case atStart => exact ⟨0, Nat.zero_le _, rfl, rfl⟩
  case round =>
    obtain ⟨k, hk, rfl, rfl⟩ := hrel
    clear hn
    have hr : Crc.run (C ^^^ 4294967295) ((bn s).take k) < 4294967296 := Crc.run_lt _ hnl (bn_take_lt s k)
    by_cases hlt : k < s.size
    · have hb : s[k].toNat < 256 := s[k].toNat_lt
      have HS : Hid (Crc.run (C ^^^ 4294967295) ((bn s).take (k + 1)) = Crc.bstep (Crc.run (C ^^^ 4294967295) ((bn s).take k)) s[k].toNat) := by
        show _ = _
        rw [bn_snoc s k hlt, Crc.run_snoc]
      generalize Crc.run (C ^^^ 4294967295) ((bn s).take k) = r at *
      have hx := xor_u32 r s[k].toNat hr (by omega)
      have hxl : r ^^^ s[k].toNat < 4294967296 := by
        have : r ^^^ s[k].toNat < 2 ^ 32 := Nat.xor_lt_two_pow (by omega) (by omega)
        simpa using this
      go_wp2
      go_loop [0, 6] (fun t i => ∃ m : Nat, m ≤ 8 ∧ i = .int .i64 m ∧ t = .int .u32 (Crc.shn m (r ^^^ s[k].toNat) : Nat)) (fun _ i => 8 - (intOf i).toNat)
      case atStart => exact ⟨0, Nat.zero_le _, rfl, rfl⟩
      case round =>
        obtain ⟨m, hm, rfl, rfl⟩ := hrel
        have hy : Crc.shn m (r ^^^ s[k].toNat) < 4294967296 := Crc.shn_lt m hxl
        have HM : Hid (Crc.shn (m + 1) (r ^^^ s[k].toNat) = Crc.sh (Crc.shn m (r ^^^ s[k].toNat))) := shn_succ _ _
        have HE : Hid (m = 8 → Crc.shn m (r ^^^ s[k].toNat) = Crc.bstep r s[k].toNat) := fun h => by rw [h]; rfl
        clear hx
        by_cases hlt8 : m < 8
        · clear HE
          generalize Crc.shn m (r ^^^ s[k].toNat) = y at *
          by_cases ho : y % 2 = 1
          · have ha : bits .and .u32 (y : Int) 1 = 1 := by rw [and1 y hy, ho]; rfl
            have hz := sh_odd y ho hy
            clear ho
            go_wp2
            go_round
            case rel => exact ⟨m + 1, by omega, by go_num, by rw [HM.out]⟩
            case measure => simp [intOf]; omega
          · have ha : bits .and .u32 (y : Int) 1 = 0 := by rw [and1 y hy]; omega
            have HZ : Hid ((y : Int) / 2 = ((Crc.sh y : Nat) : Int)) := sh_even y ho
            clear ho
            go_wp2
            go_round
            case rel => exact ⟨m + 1, by omega, by go_num, by rw [HM.out, HZ.out]⟩
            case measure => simp [intOf]; omega
        · have HF := HE.out (by omega)
          clear HE HM
          generalize Crc.shn m (r ^^^ s[k].toNat) = y at *
          have HF' : Hid (y = Crc.bstep r s[k].toNat) := HF
          clear HF
          go_wp2
          go_round
          case rel => exact ⟨k + 1, by omega, by go_num, by rw [HS.out, HF'.out]⟩
          case measure => simp [intOf]; omega
    · go_wp2
      go_ret
      refine ⟨ret_int ?_, rfl⟩
      have hall : (bn s).take k = bn s := List.take_of_length_le (by rw [bn_length]; omega)
      rw [hall] at hr ⊢
      exact not_u32 _ hr
set_option maxHeartbeats 400000 in
theorem refSum_any (s : ByteArray) (w : World) (hs : s.size ≤ maxLen) :
    Calls Tryz.prog 67 #[.string s] w fun e w' => e = .returned (.int .u32 (Crc.sum (bn s) : Nat)) ∧ w' = w := by
  go_enter Tryz.func67, Tryz.ntmps67
  go_wp2_with (go_at_call 111; refine (refMore_any _ _ _ (by omega) hs).mono ?_; rintro e w' ⟨rfl, rfl⟩)
  go_ret
  exact ⟨rfl, rfl⟩

end Go.Proofs.YtdelobaiicoogaaGreatDoor.L4
