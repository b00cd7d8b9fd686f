/- Texts that the proof needs, one behind the other. -/
import Derived.Test.YtdelobaiicoogaaGreatDoorMac
import Derived.Test.YtdelobaiicoogaaGreatDoorRows
import Derived.WalkKit
import Derived.ProofKit
import Derived.OpenShut
import Derived.WalkLawsBesides
import Derived.WalkSpells
import Derived.Outline
import Derived.Deep.AppendLies
import Derived.Laws.BytesArg
import Derived.BigFrame
import Derived.WalkMore
/- Wrap and Open beside one another: there and back, turned bits, zeros. Plain functions alone. -/
namespace Go.Proofs.YtdelobaiicoogaaGreatDoor.L4
open Go.ChangeShapes Go.WideShapes Go.ChangeAt Go.RowKit

theorem take_getD (l : List Nat) (i : Nat) (hi : i < 1020) : (l.take 1020).getD i 0 = l.getD i 0 := by
  rw [List.getD_eq_getElem?_getD, List.getD_eq_getElem?_getD, List.getElem?_take_of_lt hi]
theorem lenOf_take (l : List Nat) : Blk.lenOf (l.take 1020) = Blk.lenOf l := by
  unfold Blk.lenOf
  rw [take_getD l 3 (by decide), take_getD l 4 (by decide)]
theorem genOf_take (l : List Nat) : Blk.genOf (l.take 1020) = Blk.genOf l := by
  unfold Blk.genOf
  rw [List.drop_take, List.take_take]
  rfl
theorem bn_fst (s : ByteArray) (j : Nat) : bn (s.extract 0 j) = (bn s).take j := by rw [bn_extract, List.drop_zero, Nat.sub_zero]
theorem good_take (l : List Nat) : ((l.take 1020).take 2 = [67, 80] ∧ Blk.lenOf (l.take 1020) ≤ 1007 ∧ Blk.genOf (l.take 1020) ≤ 1152921504606846976 ∧ ∀ x ∈ (l.take 1020).drop (13 + Blk.lenOf (l.take 1020)), x = 0) ↔ Blk.Good l := by
  unfold Blk.Good
  rw [lenOf_take, genOf_take, List.take_take]
  exact Iff.rfl

theorem bn_pay (S : ByteArray) : bn (strOf (Blk.payOf (bn S))) = Blk.payOf (bn S) :=
  bn_strOf _ (fun b hb => bn_lt S b (List.mem_of_mem_drop (List.mem_of_mem_take hb)))
theorem openR_ok {S : ByteArray} (h : S.size = 1024) (hf : Blk.Fits (bn S)) (hg : Blk.Good (bn S)) : openR S = ((((bn S).getD 2 0 : Nat) : Int), ((Blk.genOf (bn S) : Nat) : Int), strOf (Blk.payOf (bn S)), 0) := by
  unfold openR
  rw [if_neg (fun hh => hh h), if_neg (fun hh => hh hf)]
  unfold blockR
  rw [bn_fst, if_pos ((good_take _).2 hg), take_getD _ 2 (by decide), genOf_take, lenOf_take]
  refine Prod.ext rfl (Prod.ext rfl (Prod.ext ?_ rfl))
  apply bn_inj
  show bn ((S.extract 0 1020).extract 13 (13 + Blk.lenOf (bn S))) = bn (strOf (Blk.payOf (bn S)))
  have hn := hg.2.1
  rw [bn_extract, bn_fst, bn_pay, List.drop_take, List.take_take, Nat.min_eq_left (by omega), Nat.add_sub_cancel_left]
  rfl
theorem bn_sector {k g : Nat} {P : ByteArray} (hk : k ≤ 255) (hp : P.size ≤ 1007) : bn (strOf (Blk.sector k g (bn P))) = Blk.sector k g (bn P) :=
  bn_strOf _ (Blk.sector_lt (by omega) (by rw [bn_length]; exact hp) (bn_lt P))
theorem size_sector {k g : Nat} {P : ByteArray} (hp : P.size ≤ 1007) : (strOf (Blk.sector k g (bn P))).size = 1024 := by
  rw [strOf_size, Blk.sector_length _ _ _ (by rw [bn_length]; exact hp)]

/-- what is wrapped opens, and is that block -/
theorem open_wrap {k g : Nat} {P : ByteArray} (hk : k ≤ 255) (hg : g ≤ 1152921504606846976) (hp : P.size ≤ 1007) : openR (strOf (Blk.sector k g (bn P))) = ((k : Int), (g : Int), P, 0) := by
  have hp' : (bn P).length ≤ 1007 := by rw [bn_length]; exact hp
  have hf := Blk.fits_sector k g (bn P) hp'
  have hgd := Blk.good_sector k g (bn P) hp' hg
  rw [openR_ok (size_sector hp) (by rw [bn_sector hk hp]; exact hf) (by rw [bn_sector hk hp]; exact hgd), bn_sector hk hp, Blk.kind_sector, Blk.genOf_sector k g _ (by omega), Blk.payOf_sector, strOf_bn]
end Go.Proofs.YtdelobaiicoogaaGreatDoor.L4

/- The plain mathematics of package pack: fixed and short numbers as lists of bytes, and how they are read. -/
namespace Go.Proofs.YtdelobaiicoogaaGreatDoor.L6.Pk

/-- a fixed number's bytes, the highest first -/
def fixL (n : Nat) : List Nat := [n / 2 ^ 56 % 256, n / 2 ^ 48 % 256, n / 2 ^ 40 % 256, n / 2 ^ 32 % 256, n / 2 ^ 24 % 256, n / 2 ^ 16 % 256, n / 2 ^ 8 % 256, n % 256]
/-- the number of bytes, the highest first -/
def fixN (l : List Nat) : Nat := l.foldl (fun a b => a * 256 + b) 0
theorem fixL_length (n : Nat) : (fixL n).length = 8 := rfl
theorem fixL_lt (n : Nat) : ∀ b ∈ fixL n, b < 256 := by
  intro b hb
  simp only [fixL, List.mem_cons, List.not_mem_nil, or_false] at hb
  rcases hb with rfl | rfl | rfl | rfl | rfl | rfl | rfl | rfl <;> exact Nat.mod_lt _ (by decide)
theorem fixN_fixL (n : Nat) (h : n < 18446744073709551616) : fixN (fixL n) = n := by
  simp only [fixN, fixL, List.foldl_cons, List.foldl_nil]
  omega
theorem fixN_snoc (l : List Nat) (b : Nat) : fixN (l ++ [b]) = fixN l * 256 + b := by simp [fixN]
theorem fold_lt (l : List Nat) (a : Nat) (hl : ∀ b ∈ l, b < 256) : l.foldl (fun a b => a * 256 + b) a < (a + 1) * 256 ^ l.length := by
  induction l generalizing a with
  | nil => simp
  | cons b t ih =>
    rw [List.foldl_cons, List.length_cons, Nat.pow_succ]
    have h1 := ih (a * 256 + b) (fun c hc => hl c (List.mem_cons_of_mem _ hc))
    have h2 := hl b List.mem_cons_self
    have h3 : (a * 256 + b + 1) * 256 ^ t.length ≤ (a + 1) * 256 * 256 ^ t.length := Nat.mul_le_mul_right _ (by omega)
    have h4 : (a + 1) * (256 ^ t.length * 256) = (a + 1) * 256 * 256 ^ t.length := by rw [Nat.mul_comm (256 ^ t.length) 256, Nat.mul_assoc]
    omega
theorem fixN_lt (l : List Nat) (hl : ∀ b ∈ l, b < 256) : fixN l < 256 ^ l.length := by
  have := fold_lt l 0 hl
  simpa [fixN] using this
/-- a short number's bytes -/
def shF : Nat → Nat → List Nat
  | 0, n => [n % 128]
  | f + 1, n => if n < 128 then [n] else (n % 128 + 128) :: shF f (n / 128)
def shL (n : Nat) : List Nat := shF 9 n
theorem shF_lt (f n : Nat) : ∀ b ∈ shF f n, b < 256 := by
  induction f generalizing n with
  | zero => intro b hb; simp [shF] at hb; omega
  | succ f ih =>
    intro b hb
    unfold shF at hb
    split at hb
    · simp at hb; omega
    · rcases List.mem_cons.1 hb with h | h
      · omega
      · exact ih _ b h
theorem shL_lt (n : Nat) : ∀ b ∈ shL n, b < 256 := shF_lt 9 n
theorem shF_pos (f n : Nat) : 0 < (shF f n).length := by
  cases f with
  | zero => simp [shF]
  | succ f => unfold shF; split <;> simp
theorem shF_le (f n : Nat) : (shF f n).length ≤ f + 1 := by
  induction f generalizing n with
  | zero => simp [shF]
  | succ f ih =>
    unfold shF
    split
    · simp
    · have := ih (n / 128)
      simp only [List.length_cons]
      omega
theorem shL_pos (n : Nat) : 0 < (shL n).length := shF_pos 9 n
theorem shL_le (n : Nat) : (shL n).length ≤ 10 := shF_le 9 n
theorem shF_small (f n : Nat) (h : n < 128) : shF f n = [n] := by
  cases f with
  | zero => simp [shF]; omega
  | succ f => unfold shF; rw [if_pos h]
theorem shF_big (f n : Nat) (h : ¬ n < 128) : shF (f + 1) n = (n % 128 + 128) :: shF f (n / 128) := by
  rw [shF, if_neg h]

/-- a short number at the front: the number, its size, the error -/
def sc : Nat → List Nat → Nat → Nat → Nat × Nat × Nat
  | 0, _, _, _ => (0, 0, 21)
  | _ + 1, [], _, _ => (0, 0, 20)
  | f + 1, b :: t, i, n => if (i = 9 ∧ 1 < b) ∨ (0 < i ∧ b = 0) then (0, 0, 21) else if b < 128 then (n + b * 2 ^ (7 * i), i + 1, 0) else sc f t (i + 1) (n + (b - 128) * 2 ^ (7 * i))
def scan (l : List Nat) : Nat × Nat × Nat := sc 10 l 0 0

theorem pow_step (i : Nat) : 2 ^ (7 * (i + 1)) = 128 * 2 ^ (7 * i) := by
  rw [show 7 * (i + 1) = 7 * i + 7 by omega, Nat.pow_add]
  omega

theorem sc_back (f i m a : Nat) (r : List Nat) (hi : i + f = 9) (hm : m < 2 ^ (7 * f + 1)) (h0 : i = 0 ∨ m ≠ 0) :
    sc (f + 1) (shF f m ++ r) i a = (a + m * 2 ^ (7 * i), i + (shF f m).length, 0) := by
  induction f generalizing i m a with
  | zero =>
    have h1 : m < 2 := by simpa using hm
    rw [shF_small 0 m (by omega)]
    simp only [List.cons_append, List.nil_append, sc, List.length_singleton]
    rw [if_neg (by omega), if_pos (by omega)]
  | succ f ih =>
    by_cases h : m < 128
    · rw [shF_small _ m h]
      simp only [List.cons_append, List.nil_append, List.length_singleton]
      rw [sc, if_neg (by omega), if_pos h]
    · rw [shF_big f m h]
      simp only [List.cons_append, List.length_cons]
      rw [sc, if_neg (by omega), if_neg (by omega)]
      have hm' : m / 128 < 2 ^ (7 * f + 1) := by
        have : 2 ^ (7 * (f + 1) + 1) = 128 * 2 ^ (7 * f + 1) := by rw [show 7 * (f + 1) + 1 = (7 * f + 1) + 7 by omega, Nat.pow_add]; omega
        omega
      rw [ih (i + 1) (m / 128) _ (by omega) hm' (by omega), pow_step]
      generalize 2 ^ (7 * i) = p
      have e : m % 128 + 128 - 128 = m % 128 := by omega
      rw [e]
      have e2 : m * p = m % 128 * p + m / 128 * (128 * p) := by
        have : m = m % 128 + m / 128 * 128 := by omega
        calc m * p = (m % 128 + m / 128 * 128) * p := by rw [← this]
          _ = m % 128 * p + m / 128 * (128 * p) := by rw [Nat.add_mul, Nat.mul_assoc]
      rw [e2]
      refine Prod.ext ?_ (Prod.ext ?_ rfl)
      · show a + m % 128 * p + m / 128 * (128 * p) = a + (m % 128 * p + m / 128 * (128 * p))
        omega
      · show i + 1 + (shF f (m / 128)).length = i + ((shF f (m / 128)).length + 1)
        omega
theorem scan_back (n : Nat) (r : List Nat) (h : n < 18446744073709551616) : scan (shL n ++ r) = (n, (shL n).length, 0) := by
  have := sc_back 9 0 n 0 r rfl (by simpa using h) (.inl rfl)
  simp only [Nat.zero_add, Nat.mul_zero, Nat.pow_zero, Nat.mul_one] at this
  exact this

/-- what is read has just these bytes -/
theorem sc_one (f i a : Nat) (l : List Nat) (hl : ∀ b ∈ l, b < 256) (hi : i + f = 9) :
    (∃ m, sc (f + 1) l i a = (a + m * 2 ^ (7 * i), i + (shF f m).length, 0) ∧ m < 2 ^ (7 * f + 1) ∧ (i = 0 ∨ m ≠ 0) ∧ (shF f m).length ≤ l.length ∧ l.take (shF f m).length = shF f m) ∨
      sc (f + 1) l i a = (0, 0, 20) ∨ sc (f + 1) l i a = (0, 0, 21) := by
  induction f generalizing i a l with
  | zero =>
    cases l with
    | nil => exact .inr (.inl rfl)
    | cons b t =>
      by_cases hw : (i = 9 ∧ 1 < b) ∨ (0 < i ∧ b = 0)
      · exact .inr (.inr (by rw [sc, if_pos hw]))
      · refine .inl ⟨b, ?_⟩
        have hb : b < 2 := by omega
        rw [shF_small 0 b (by omega), sc, if_neg hw, if_pos (by omega)]
        refine ⟨rfl, by simpa using hb, by omega, by simp, by simp⟩
  | succ f ih =>
    cases l with
    | nil => exact .inr (.inl rfl)
    | cons b t =>
      have hb := hl b List.mem_cons_self
      have ht : ∀ c ∈ t, c < 256 := fun c hc => hl c (List.mem_cons_of_mem _ hc)
      have hp : 2 ^ (7 * (f + 1) + 1) = 128 * 2 ^ (7 * f + 1) := by rw [show 7 * (f + 1) + 1 = (7 * f + 1) + 7 by omega, Nat.pow_add]; omega
      have hp1 : 0 < 2 ^ (7 * f + 1) := Nat.pow_pos (by decide)
      by_cases hw : (i = 9 ∧ 1 < b) ∨ (0 < i ∧ b = 0)
      · exact .inr (.inr (by rw [sc, if_pos hw]))
      · by_cases h : b < 128
        · refine .inl ⟨b, ?_⟩
          rw [shF_small _ b h, sc, if_neg hw, if_pos h]
          exact ⟨rfl, by omega, by omega, by simp, by simp⟩
        · rw [sc, if_neg hw, if_neg h]
          rcases ih (i + 1) (a + (b - 128) * 2 ^ (7 * i)) t ht (by omega) with ⟨m, e, hm, h0, hlen, htk⟩ | h20 | h21
          · refine .inl ⟨b - 128 + 128 * m, ?_⟩
            have hbig : ¬ b - 128 + 128 * m < 128 := by omega
            have e1 : (b - 128 + 128 * m) % 128 + 128 = b := by omega
            have e2 : (b - 128 + 128 * m) / 128 = m := by omega
            rw [shF_big f _ hbig, e1, e2, e, pow_step]
            refine ⟨?_, by omega, by omega, by simp only [List.length_cons]; omega, by rw [List.length_cons, List.take_succ_cons, htk]⟩
            generalize 2 ^ (7 * i) = p
            refine Prod.ext ?_ (Prod.ext ?_ rfl)
            · show a + (b - 128) * p + m * (128 * p) = a + (b - 128 + 128 * m) * p
              rw [Nat.add_mul, Nat.mul_comm 128 m, Nat.mul_assoc]
              omega
            · show i + 1 + (shF f m).length = i + ((shF f m).length + 1)
              omega
          · exact .inr (.inl h20)
          · exact .inr (.inr h21)
theorem scan_one (l : List Nat) (hl : ∀ b ∈ l, b < 256) :
    (∃ n, scan l = (n, (shL n).length, 0) ∧ n < 18446744073709551616 ∧ (shL n).length ≤ l.length ∧ l.take (shL n).length = shL n) ∨ scan l = (0, 0, 20) ∨ scan l = (0, 0, 21) := by
  rcases sc_one 9 0 0 l hl rfl with ⟨m, e, hm, _, h1, h2⟩ | h | h
  · refine .inl ⟨m, ?_, by simpa using hm, h1, h2⟩
    simp only [Nat.zero_add, Nat.mul_zero, Nat.pow_zero, Nat.mul_one] at e
    exact e
  · exact .inr (.inl h)
  · exact .inr (.inr h)

end Go.Proofs.YtdelobaiicoogaaGreatDoor.L6.Pk

/- Bytes of one's own: a slice that a call makes and appends to, and the text that is made of it. -/
namespace Go.Proofs.YtdelobaiicoogaaGreatDoor.L6
open Go.ChangeShapes Go.WideShapes Go.ChangeAt Go.RowKit

theorem hide {p : Prop} (h : p) : Hid p := h
theorem unhide {p : Prop} (h : Hid p) : p := h
theorem ret_int {k : IntKind} {a b : Int} (h : a = b) : Ending.returned (.int k a) = .returned (.int k b) := by rw [h]

/-- a text's bytes as numbers -/
def bn (s : ByteArray) : List Nat := s.data.toList.map UInt8.toNat
theorem bn_length (s : ByteArray) : (bn s).length = s.size := by
  unfold bn
  rw [List.length_map, Array.length_toList]
  rfl
theorem bn_lt (s : ByteArray) : ∀ b ∈ bn s, b < 256 := by
  intro b hb
  obtain ⟨u, _, rfl⟩ := List.mem_map.1 hb
  exact u.toNat_lt
theorem bn_append (s t : ByteArray) : bn (s ++ t) = bn s ++ bn t := by
  unfold bn
  rw [ByteArray.data_append, Array.toList_append, List.map_append]
theorem bn_inj {s t : ByteArray} (h : bn s = bn t) : s = t := by
  unfold bn at h
  apply ByteArray.ext
  have := (List.map_inj_right (f := UInt8.toNat) (fun a b e => UInt8.toNat_inj.1 e)).1 h
  exact Array.toList_inj.1 this
theorem bn_at (s : ByteArray) (k : Nat) (h : k < s.size) : (bn s)[k]? = some s[k].toNat := by
  simp only [bn, List.getElem?_map]
  rw [List.getElem?_eq_getElem (by rw [Array.length_toList]; exact h)]
  rfl

/-- the text of these bytes -/
def strOf (l : List Nat) : ByteArray := strOfNums (l.map fun n : Nat => (n : Int))
theorem bn_strOf (l : List Nat) (h : ∀ b ∈ l, b < 256) : bn (strOf l) = l := by
  unfold bn strOf
  rw [strOfNums_data, List.map_map, List.map_map]
  refine (List.map_congr_left (g := id) (fun b hb => ?_)).trans (List.map_id l)
  have := h b hb
  simp [Function.comp, Nat.mod_eq_of_lt this]
theorem strOf_size (l : List Nat) : (strOf l).size = l.length := by unfold strOf; rw [strOfNums_size, List.length_map]
theorem strOf_bn (s : ByteArray) : strOf (bn s) = s := bn_inj (bn_strOf _ (bn_lt s))

theorem info5 : (Tryz.prog.info? 5).map (fun i => (i.zero, i.size, i.bytes)) = some (some (.int .u8 0), 1, 1) := by kernel_rfl

def cells (l : List Nat) : List Value := l.map fun n : Nat => Value.int .u8 (n : Int)
theorem cells_append (l r : List Nat) : cells (l ++ r) = cells l ++ cells r := by simp [cells]

/-- bytes of one's own: a slice in new memory, which nobody else has -/
def Own (base : Nat) (w : World) (v : Value) (l : List Nat) : Prop := w.ownsRow base 5 1 v l.length (cells l)
theorem below_own {B : Nat} {w wr w1 : World} {v : Value} {l : List Nat} {o : Obj} (hB : B ≤ wr.heap.size) (hb : Below B w wr) (hown : Own B wr v l)
    (hg : (wr.alloc o).grownBy w1 v.ownBlock) : Below B w w1 := by
  refine (hb.alloc hB o).grown hg (by simp; omega) ?_
  intro k hk
  exact (World.ownsRow.lt hown k hk).1

/-- append of one byte to what is one's own, as the walk meets it: the byte stands in a new block -/
theorem app_one {ops : Array Oper} {rest : List Oper} {o : Oper} {a : Act} {Q : Exit → Act → World → Prop} {B : Nat} {w wr : World} {v : Value} {l : List Nat} {b : Nat}
    (hwant : Region.wanted o (yielded ops a.tmps) = true) (s x : Operand) (ho : o.op = .call { callee := .builtin .append, args := #[s, x], argTypes := #[140, 140] })
    (hs : a.eval s = v) (hx : a.eval x = .slice (some ⟨wr.heap.size, 0, none⟩) 1 1) (hB : B ≤ wr.heap.size) (hbel : Below B w wr) (hown : Own B wr v l) (hlen : l.length ≤ 1000)
    (h : ∀ a' cap' w', Own B w' (.slice a' (l.length + 1) cap') (l ++ [b]) → Below B w w' → wpList Tryz.prog ops Q rest (a.put o.dst (.slice a' (l.length + 1) cap')) w') :
    wpList Tryz.prog ops Q (o :: rest) a (wr.alloc (.cells #[.int .u8 (b : Int)] 5)) := by
  obtain ⟨i0, hi, hz0, hz1, hz2⟩ := info_parts info5
  obtain ⟨v', w', hr, ho', hg, _⟩ := run_append_own (P := Tryz.prog) (wr.alloc (.cells #[.int .u8 (b : Int)] 5)) B 140 o.type 5 i0 (.int .u8 0) 1 1 Tryz.underlying140 hi hz0 hz1 hz2 rfl (by decide) v l.length (cells l) (World.ownsRow.alloc hown _) ⟨wr.heap.size, 0, none⟩ 1 1 [.int .u8 (b : Int)] rfl
    (fun j u hj => by
      match j, hj with
      | 0, hj => simp at hj; subst hj; simp [Addr.add])
    (fun u hu => by simp at hu; subst hu; rfl) (by unfold maxLen; omega) (by omega) (by simp; omega)
  have hform : ∃ a' cap', v' = .slice a' (l.length + 1) cap' := by
    rcases ho'.2 with ⟨_, hn⟩ | ⟨g, cap, cur, e, _⟩
    · omega
    · exact ⟨_, _, e⟩
  obtain ⟨a', cap', rfl⟩ := hform
  have ho2 : Own B w' (.slice a' (l.length + 1) cap') (l ++ [b]) := by
    unfold Own
    rw [List.length_append, cells_append]
    exact ho'
  have hb2 : Below B w w' := below_own hB hbel hown hg
  refine BigFrame.wpList_want hwant fun K hK => ?_
  unfold Oper.wp execOp
  simp only [ho, resolve, invoke, builtin, Sem.run_bind, Sem.run_pure, Result.andThen_ok, List.map_toArray, List.map_cons, List.map_nil, hs, hx, hr]
  exact hK _ _ (h a' cap' w' ho2 hb2)

/-- string(b), of what is one's own -/
theorem conv_own {B : Nat} {w : World} {v : Value} {l : List Nat} (h : Own B w v l) : (convert 140 9 v).run Tryz.prog w = .ok (.string (strOf l)) w := by
  have h' := h
  obtain ⟨_, ⟨rfl, hn⟩ | ⟨g, cap, cur, rfl, _⟩⟩ := h
  · obtain rfl := List.length_eq_zero_iff.1 hn
    exact run_convert_bytes_nil w 140 5 Tryz.underlying140 Tryz.underlying5 0 0 9 Tryz.underlying9
  · exact run_convert_bytes_arg w 140 5 Tryz.underlying140 Tryz.underlying5 g 0 l.length cap _ (by simp) (fun i hi => by rw [Nat.zero_add, World.ownsRow.cellAt h' i (by omega)]; simp [cells, List.getElem?_eq_getElem hi]) 9 Tryz.underlying9
/-- string(b), of bytes that lie in a row -/
theorem conv_row (g cap : Nat) (l : List Nat) (w : World) (hc : ∀ i, i < l.length → w.cell? ⟨g, i, none⟩ = some (.int .u8 (l.getD i 0 : Nat))) :
    (convert 140 9 (.slice (some ⟨g, 0, none⟩) l.length cap)).run Tryz.prog w = .ok (.string (strOf l)) w :=
  run_convert_bytes_arg w 140 5 Tryz.underlying140 Tryz.underlying5 g 0 l.length cap _ (by simp) (fun i hi => by rw [Nat.zero_add, hc i hi]; simp [List.getElem?_eq_getElem hi]) 9 Tryz.underlying9
end Go.Proofs.YtdelobaiicoogaaGreatDoor.L6

/- Nodes: what they are, which are right, their bytes (plain mathematics); how they stand in memory. -/
namespace Go.Proofs.YtdelobaiicoogaaGreatDoor.L6
open Go.ChangeShapes Go.WideShapes Go.ChangeAt Go.RowKit

abbrev It := ByteArray × ByteArray
abbrev Kd := ByteArray × Int
structure Nd where
  leaf : Bool
  its : List It
  kds : List Kd

def less (a b : ByteArray) : Bool := Op.bytesLess a.toList b.toList
theorem less_flip (a b : List UInt8) : (Op.bytesLess a b || a == b) = !(Op.bytesLess b a) := by
  induction a generalizing b with
  | nil => cases b <;> rfl
  | cons x s ih =>
    cases b with
    | nil => rfl
    | cons y t =>
      simp only [Op.bytesLess]
      have h := ih t
      rcases (show x < y ∨ x = y ∨ y < x by rw [UInt8.lt_iff_toNat_lt, UInt8.lt_iff_toNat_lt, ← UInt8.toNat_inj]; omega) with hxy | hxy | hxy
      · have h1 : ¬ y < x := fun h => absurd (UInt8.lt_trans hxy h) (UInt8.lt_irrefl _)
        have h2 : (y == x) = false := beq_eq_false_iff_ne.2 (fun e => by subst e; exact UInt8.lt_irrefl _ hxy)
        simp [hxy, h1, h2]
      · subst hxy
        simpa [UInt8.lt_irrefl] using h
      · have h1 : ¬ x < y := fun h => absurd (UInt8.lt_trans hxy h) (UInt8.lt_irrefl _)
        have h2 : (x == y) = false := beq_eq_false_iff_ne.2 (fun e => by subst e; exact UInt8.lt_irrefl _ hxy)
        simp [hxy, h1, h2]
theorem leq_flip (a b : ByteArray) : (Op.bytesLess a.toList b.toList || a.toList == b.toList) = !(less b a) := less_flip _ _

def mayI (x : It) : Bool := decide (0 < x.1.size) && decide (x.1.size ≤ 272) && decide (x.2.size ≤ 160)
def mayK (x : Kd) : Bool := decide (x.1.size ≤ 272) && decide (2 ≤ x.2) && decide (x.2 < 4096)
/-- all of them may be, and the keys rise from one on -/
def rise {β : Type} (may : ByteArray × β → Bool) : Option ByteArray → List (ByteArray × β) → Bool
  | _, [] => true
  | none, x :: t => may x && rise may (some x.1) t
  | some q, x :: t => may x && less q x.1 && rise may (some x.1) t
def before {β : Type} (l : List (ByteArray × β)) : Nat → Option ByteArray
  | 0 => none
  | k + 1 => (l[k]?).map (fun x => x.1)
/-- up to here all is well: the rest decides -/
def Upto {β : Type} (may : ByteArray × β → Bool) (l : List (ByteArray × β)) (k : Nat) : Prop := rise may none l = rise may (before l k) (l.drop k)
theorem drop_get {α : Type} {l : List α} {k : Nat} {x : α} (h : l[k]? = some x) : l.drop k = x :: l.drop (k + 1) := by
  obtain ⟨hk, rfl⟩ := List.getElem?_eq_some_iff.1 h
  exact List.drop_eq_getElem_cons hk
theorem Upto.start {β : Type} (may : ByteArray × β → Bool) (l : List (ByteArray × β)) : Upto may l 0 := rfl
theorem Upto.bad {β : Type} {may : ByteArray × β → Bool} {l : List (ByteArray × β)} {k : Nat} {x : ByteArray × β} (h : Upto may l k) (hx : l[k]? = some x) (hm : may x = false) : rise may none l = false := by
  rw [h, drop_get hx]
  cases before l k <;> simp [rise, hm]
theorem Upto.first {β : Type} {may : ByteArray × β → Bool} {l : List (ByteArray × β)} {x : ByteArray × β} (h : Upto may l 0) (hx : l[0]? = some x) (hm : may x = true) : Upto may l 1 := by
  unfold Upto at *
  rw [h, drop_get hx]
  simp [rise, hm, before, hx]
theorem Upto.falls {β : Type} {may : ByteArray × β → Bool} {l : List (ByteArray × β)} {k : Nat} {x y : ByteArray × β} (h : Upto may l (k + 1)) (hx : l[k + 1]? = some x) (hy : l[k]? = some y) (hl : less y.1 x.1 = false) : rise may none l = false := by
  rw [h, drop_get hx]
  simp [rise, before, hy, hl]
theorem Upto.next {β : Type} {may : ByteArray × β → Bool} {l : List (ByteArray × β)} {k : Nat} {x y : ByteArray × β} (h : Upto may l (k + 1)) (hx : l[k + 1]? = some x) (hy : l[k]? = some y) (hm : may x = true) (hl : less y.1 x.1 = true) : Upto may l (k + 2) := by
  unfold Upto at *
  rw [h, drop_get hx]
  simp [rise, before, hy, hx, hl, hm]
theorem Upto.done {β : Type} {may : ByteArray × β → Bool} {l : List (ByteArray × β)} (h : Upto may l l.length) : rise may none l = true := by
  rw [h, List.drop_length]
  cases before l l.length <;> rfl

def rightB (n : Nd) : Bool := if n.leaf then n.kds.isEmpty && !n.its.isEmpty && rise mayI none n.its else n.its.isEmpty && !n.kds.isEmpty && rise mayK none n.kds

def txL (s : ByteArray) : List Nat := Pk.shL s.size ++ bn s
def itL (x : It) : List Nat := txL x.1 ++ txL x.2
def kdL (x : Kd) : List Nat := txL x.1 ++ Pk.shL x.2.toNat
def ndL (n : Nd) : List Nat := if n.leaf then 1 :: (Pk.shL n.its.length ++ n.its.flatMap itL) else 2 :: (Pk.shL n.kds.length ++ n.kds.flatMap kdL)
def sizeN (n : Nd) : Nat := if rightB n then (ndL n).length else 0
def checkN (n : Nd) : Nat := if rightB n then (if 1007 < (ndL n).length then 61 else 0) else 60
def encodeN (n : Nd) : ByteArray × Nat := if checkN n = 0 then (strOf (ndL n), 0) else (⟨#[]⟩, checkN n)

theorem txL_lt (s : ByteArray) : ∀ b ∈ txL s, b < 256 := by
  intro b hb
  rcases List.mem_append.1 hb with h | h
  · exact Pk.shL_lt _ b h
  · exact bn_lt _ b h
theorem itL_lt (x : It) : ∀ b ∈ itL x, b < 256 := by
  intro b hb
  rcases List.mem_append.1 hb with h | h
  · exact txL_lt _ b h
  · exact txL_lt _ b h
theorem kdL_lt (x : Kd) : ∀ b ∈ kdL x, b < 256 := by
  intro b hb
  rcases List.mem_append.1 hb with h | h
  · exact txL_lt _ b h
  · exact Pk.shL_lt _ b h
theorem flat_lt {α : Type} {f : α → List Nat} (hf : ∀ x, ∀ b ∈ f x, b < 256) (l : List α) : ∀ b ∈ l.flatMap f, b < 256 := by
  intro b hb
  obtain ⟨x, _, h⟩ := List.mem_flatMap.1 hb
  exact hf x b h
theorem ndL_lt (n : Nd) : ∀ b ∈ ndL n, b < 256 := by
  intro b hb
  unfold ndL at hb
  split at hb
  · rcases List.mem_cons.1 hb with h | h
    · omega
    · rcases List.mem_append.1 h with h | h
      · exact Pk.shL_lt _ b h
      · exact flat_lt itL_lt _ b h
  · rcases List.mem_cons.1 hb with h | h
    · omega
    · rcases List.mem_append.1 h with h | h
      · exact Pk.shL_lt _ b h
      · exact flat_lt kdL_lt _ b h

theorem strOf_append (a b : List Nat) : strOf (a ++ b) = strOf a ++ strOf b := by
  apply ByteArray.ext
  unfold strOf
  rw [ByteArray.data_append]
  apply Array.toList_inj.1
  rw [Array.toList_append, strOfNums_data, strOfNums_data, strOfNums_data]
  simp
theorem strOf_txL (s : ByteArray) : strOf (Pk.shL s.size) ++ s = strOf (txL s) := by
  unfold txL
  rw [strOf_append, strOf_bn]
theorem txL_length (s : ByteArray) : (txL s).length ≤ 10 + s.size := by
  unfold txL
  rw [List.length_append, bn_length]
  have := Pk.shL_le s.size
  omega
theorem txL_pos (s : ByteArray) : 0 < (txL s).length := by
  unfold txL
  rw [List.length_append]
  have := Pk.shL_pos s.size
  omega

/-- entries in a row, two cells each -/
def RowAt {β : Type} (sv : β → Value) (w : World) (b off : Nat) (l : List (ByteArray × β)) : Prop :=
  ∀ i x, l[i]? = some x → w.cell? ⟨b, off + i * 2, none⟩ = some (.string x.1) ∧ w.cell? ⟨b, off + i * 2 + 1, none⟩ = some (sv x.2)
def Row {β : Type} (sv : β → Value) (w : World) (a : Option Addr) (l : List (ByteArray × β)) : Prop := l = [] ∨ ∃ b off, a = some ⟨b, off, none⟩ ∧ RowAt sv w b off l
abbrev kv (n : Int) : Value := .int .i64 n
theorem RowAt.grow {β : Type} {sv : β → Value} {w w' : World} {b off : Nat} {l : List (ByteArray × β)} (h : RowAt sv w b off l) (hb : Below w.heap.size w w') : RowAt sv w' b off l := by
  intro i x hx
  obtain ⟨c0, c1⟩ := h i x hx
  exact ⟨(hb.cell (World.block_lt_of_cell? _ _ c0)).trans c0, (hb.cell (World.block_lt_of_cell? _ _ c1)).trans c1⟩
theorem Row.grow {β : Type} {sv : β → Value} {w w' : World} {a : Option Addr} {l : List (ByteArray × β)} (h : Row sv w a l) (hb : Below w.heap.size w w') : Row sv w' a l :=
  h.imp id (fun ⟨b, off, e, hh⟩ => ⟨b, off, e, hh.grow hb⟩)
theorem Row.at {β : Type} {sv : β → Value} {w : World} {a : Option Addr} {l : List (ByteArray × β)} (h : Row sv w a l) {k : Nat} (hk : k < l.length) : ∃ b off, a = some ⟨b, off, none⟩ ∧ RowAt sv w b off l := by
  rcases h with rfl | h
  · simp at hk
  · exact h
theorem get_some {α : Type} {l : List α} {k : Nat} (hk : k < l.length) : ∃ x, l[k]? = some x := ⟨l[k], List.getElem?_eq_getElem hk⟩
/-- a node in memory -/
def Has (w : World) (n : Nd) (ai ak : Option Addr) : Prop := Row Value.string w ai n.its ∧ Row kv w ak n.kds
theorem Has.grow {w w' : World} {n : Nd} {ai ak : Option Addr} (h : Has w n ai ak) (hb : Below w.heap.size w w') : Has w' n ai ak := ⟨h.1.grow hb, h.2.grow hb⟩
theorem cell_keep {w w' : World} {p : Addr} {v : Value} (h : w.cell? p = some v) (hb : Below w.heap.size w w') : w'.cell? p = some v := (hb.cell (World.block_lt_of_cell? _ _ h)).trans h
theorem below_then {W w1 w2 : World} (h : Below W.heap.size W w1) (k : Below w1.heap.size w1 w2) : Below W.heap.size W w2 := h.trans (k.mono h.size)
theorem below_alloc (w : World) (o : Obj) : Below w.heap.size w (w.alloc o) := (Below.refl _ _).alloc (Nat.le_refl _) _
theorem below_drew (w : World) : Below w.heap.size w w.drew := (Below.refl _ _).drew
end Go.Proofs.YtdelobaiicoogaaGreatDoor.L6

/- The small functions: keys, which entries may be, which nodes are great. -/
namespace Go.Proofs.YtdelobaiicoogaaGreatDoor.L6
open Go.ChangeShapes Go.WideShapes Go.ChangeAt Go.RowKit

theorem ret_bool {a b : Bool} (h : a = b) : Ending.returned (.bool a) = .returned (.bool b) := by rw [h]

set_option maxHeartbeats 400000 in
theorem itemKey_any (k v : ByteArray) (w : World) : Calls Tryz.prog 77 #[.agg #[.string k, .string v]] w fun e w' => e = .returned (.string k) ∧ Below w.heap.size w w' := by
  go_enter Tryz.func77, Tryz.ntmps77
  go_wp2
  go_ret
  exact ⟨rfl, below_alloc _ _⟩
set_option maxHeartbeats 400000 in
theorem kidKey_any (k : ByteArray) (p : Int) (w : World) : Calls Tryz.prog 79 #[.agg #[.string k, .int .i64 p]] w fun e w' => e = .returned (.string k) ∧ Below w.heap.size w w' := by
  go_enter Tryz.func79, Tryz.ntmps79
  go_wp2
  go_ret
  exact ⟨rfl, below_alloc _ _⟩

theorem empty_of {s : ByteArray} (h : s.size = 0) : s.toList.isEmpty = true := by
  rw [ByteArray.toList_eq, List.isEmpty_iff, List.eq_nil_iff_length_eq_zero, Array.length_toList]
  exact h
theorem full_of' {s : ByteArray} (h : 0 < s.size) : s.toList.isEmpty = false := by
  rw [ByteArray.toList_eq, List.isEmpty_eq_false_iff]
  intro e
  have : s.data.toList.length = 0 := by rw [e]; rfl
  rw [Array.length_toList] at this
  exact absurd this (Nat.ne_of_gt h)

set_option maxHeartbeats 1000000 in
theorem mayItem_any (k v : ByteArray) (w : World) : Calls Tryz.prog 161 #[.agg #[.string k, .string v]] w fun e w' => e = .returned (.bool (mayI (k, v))) ∧ Below w.heap.size w w' := by
  by_cases h0 : 0 < k.size
  · have hf := full_of' h0
    by_cases h1 : k.size ≤ 272
    · by_cases h2 : v.size ≤ 160
      · have e : mayI (k, v) = true := by simp [mayI, h0, h1, h2]
        rw [e]
        clear e
        go_enter Tryz.func161, Tryz.ntmps161
        go_wp2
        go_ret
        exact ⟨by first | rfl | exact ret_bool (decide_eq_true (by omega)) | exact ret_bool (decide_eq_false (by omega)), below_alloc _ _⟩
      · have e : mayI (k, v) = false := by simp [mayI, h0, h1, h2]
        rw [e]
        clear e
        go_enter Tryz.func161, Tryz.ntmps161
        go_wp2
        go_ret
        exact ⟨by first | rfl | exact ret_bool (decide_eq_true (by omega)) | exact ret_bool (decide_eq_false (by omega)), below_alloc _ _⟩
    · have e : mayI (k, v) = false := by simp [mayI, h1]
      rw [e]
      clear e
      go_enter Tryz.func161, Tryz.ntmps161
      go_wp2
      go_ret
      exact ⟨by first | rfl | exact ret_bool (decide_eq_true (by omega)) | exact ret_bool (decide_eq_false (by omega)), below_alloc _ _⟩
  · have e : mayI (k, v) = false := by simp [mayI, h0]
    have hf := empty_of (s := k) (by omega)
    rw [e]
    clear e
    go_enter Tryz.func161, Tryz.ntmps161
    go_wp2
    go_ret
    exact ⟨by first | rfl | exact ret_bool (decide_eq_true (by omega)) | exact ret_bool (decide_eq_false (by omega)), below_alloc _ _⟩
set_option maxHeartbeats 1000000 in
theorem mayKid_any (k : ByteArray) (p : Int) (w : World) : Calls Tryz.prog 163 #[.agg #[.string k, .int .i64 p]] w fun e w' => e = .returned (.bool (mayK (k, p))) ∧ Below w.heap.size w w' := by
  by_cases h1 : k.size ≤ 272
  · by_cases h2 : 2 ≤ p
    · by_cases h3 : p < 4096
      · have e : mayK (k, p) = true := by simp [mayK, h1, h2, h3]
        rw [e]
        clear e
        go_enter Tryz.func163, Tryz.ntmps163
        go_wp2
        go_ret
        exact ⟨by first | rfl | exact ret_bool (decide_eq_true (by omega)) | exact ret_bool (decide_eq_false (by omega)), below_alloc _ _⟩
      · have e : mayK (k, p) = false := by simp [mayK, h3]
        rw [e]
        clear e
        go_enter Tryz.func163, Tryz.ntmps163
        go_wp2
        go_ret
        exact ⟨by first | rfl | exact ret_bool (decide_eq_true (by omega)) | exact ret_bool (decide_eq_false (by omega)), below_alloc _ _⟩
    · have e : mayK (k, p) = false := by simp [mayK, h2]
      rw [e]
      clear e
      go_enter Tryz.func163, Tryz.ntmps163
      go_wp2
      go_ret
      exact ⟨by first | rfl | exact ret_bool (decide_eq_true (by omega)) | exact ret_bool (decide_eq_false (by omega)), below_alloc _ _⟩
  · have e : mayK (k, p) = false := by simp [mayK, h1]
    rw [e]
    clear e
    go_enter Tryz.func163, Tryz.ntmps163
    go_wp2
    go_ret
    exact ⟨by first | rfl | exact ret_bool (decide_eq_true (by omega)) | exact ret_bool (decide_eq_false (by omega)), below_alloc _ _⟩

/-- no more than is asked -/
def Few (n : Nd) : Prop := n.its.length ≤ 300 ∧ n.kds.length ≤ 300 ∧ (∀ x ∈ n.its, x.1.size ≤ 1000 ∧ x.2.size ≤ 1000) ∧ (∀ x ∈ n.kds, x.1.size ≤ 1000)
def GreatSaid (n : Nd) (w : World) (e : Ending) (w' : World) : Prop := ∃ g, e = .returned (.bool g) ∧ (g = false → Few n) ∧ Below w.heap.size w w'
theorem all_of {α : Type} {l : List α} {p : α → Prop} (h : ∀ i x, i < l.length → l[i]? = some x → p x) : ∀ x ∈ l, p x := by
  intro x hx
  obtain ⟨i, hi, rfl⟩ := List.mem_iff_getElem.1 hx
  exact h i _ hi (List.getElem?_eq_getElem hi)

set_option maxRecDepth 10000 in
set_option maxHeartbeats 2000000 in
theorem great_any (n : Nd) (ai ak : Option Addr) (ci ck : Nat) (w : World) (hn : Has w n ai ak) (hil : n.its.length ≤ maxLen) (hkl : n.kds.length ≤ maxLen) :
    Calls Tryz.prog 9 #[.agg #[.bool n.leaf, .slice ai n.its.length ci, .slice ak n.kds.length ck]] w fun e w' => GreatSaid n w e w' := by
  obtain ⟨L, its, kds⟩ := n
  unfold maxLen at hil hkl
  simp only at hil hkl
  by_cases h1 : 300 < its.length
  · go_enter Tryz.func9, Tryz.ntmps9
    go_wp2
    go_ret
    exact ⟨true, rfl, fun h => by simp at h, below_alloc _ _⟩
  by_cases h2 : 300 < kds.length
  · go_enter Tryz.func9, Tryz.ntmps9
    go_wp2
    go_ret
    exact ⟨true, rfl, fun h => by simp at h, below_alloc _ _⟩
  have hi := hide (hn.1.grow (below_alloc w (.cells #[.bool L, .slice ai its.length ci, .slice ak kds.length ck] 38)))
  have hk := hide (hn.2.grow (below_alloc w (.cells #[.bool L, .slice ai its.length ci, .slice ak kds.length ck] 38)))
  simp only at hi hk
  clear hn
  go_enter Tryz.func9, Tryz.ntmps9
  go_wp2
  go_loop [3] (fun t => ∃ k : Nat, k ≤ its.length ∧ t = .int .i64 k ∧ ∀ i x, i < k → its[i]? = some x → x.1.size ≤ 1000 ∧ x.2.size ≤ 1000) (fun t => its.length - (intOf t).toNat)
  case atStart => exact ⟨0, Nat.zero_le _, rfl, fun i x h => absurd h (Nat.not_lt_zero _)⟩
  case round =>
    obtain ⟨k, hkl', rfl, hall⟩ := hrel
    have HA := hide hall
    clear hall
    by_cases hlt : k < its.length
    · obtain ⟨b, off, rfl, hr⟩ := (unhide hi).at hlt
      obtain ⟨⟨key, val⟩, hx⟩ := get_some hlt
      obtain ⟨c0, c1⟩ := hr k _ hx
      simp only at c0 c1
      have HX := hide hx
      clear hr hx
      by_cases k1 : 1000 < key.size
      · go_wp2
        go_ret
        exact ⟨true, rfl, fun h => by simp at h, below_alloc _ _⟩
      · by_cases k2 : 1000 < val.size
        · go_wp2
          go_ret
          exact ⟨true, rfl, fun h => by simp at h, below_alloc _ _⟩
        · go_wp2
          go_round
          case rel =>
            refine ⟨k + 1, by omega, by go_num, fun i x hi hx => ?_⟩
            by_cases hik : i = k
            · subst hik
              rw [unhide HX] at hx
              obtain rfl := Option.some.inj hx
              exact ⟨by show key.size ≤ _; omega, by show val.size ≤ _; omega⟩
            · exact unhide HA i x (by omega) hx
          case measure => simp [intOf]; omega
    · obtain rfl : k = its.length := by omega
      go_wp2
      go_loop [4] (fun t => ∃ k : Nat, k ≤ kds.length ∧ t = .int .i64 k ∧ ∀ i x, i < k → kds[i]? = some x → x.1.size ≤ 1000) (fun t => kds.length - (intOf t).toNat)
      case atStart => exact ⟨0, Nat.zero_le _, rfl, fun i x h => absurd h (Nat.not_lt_zero _)⟩
      case round =>
        obtain ⟨k, hkl', rfl, hall⟩ := hrel
        have HB := hide hall
        clear hall
        by_cases hlt' : k < kds.length
        · obtain ⟨b, off, rfl, hr⟩ := (unhide hk).at hlt'
          obtain ⟨⟨key, val⟩, hx⟩ := get_some hlt'
          obtain ⟨c0, c1⟩ := hr k _ hx
          simp only at c0 c1
          have HX := hide hx
          clear hr hx
          by_cases k1 : 1000 < key.size
          · go_wp2
            go_ret
            exact ⟨true, rfl, fun h => by simp at h, below_alloc _ _⟩
          · go_wp2
            go_round
            case rel =>
              refine ⟨k + 1, by omega, by go_num, fun i x hi hx => ?_⟩
              by_cases hik : i = k
              · subst hik
                rw [unhide HX] at hx
                obtain rfl := Option.some.inj hx
                show key.size ≤ _
                omega
              · exact unhide HB i x (by omega) hx
            case measure => simp [intOf]; omega
        · obtain rfl : k = kds.length := by omega
          go_wp2
          go_ret
          exact ⟨false, rfl, fun _ => ⟨by show its.length ≤ _; omega, by show kds.length ≤ _; omega, all_of (unhide HA), all_of (unhide HB)⟩, below_alloc _ _⟩
end Go.Proofs.YtdelobaiicoogaaGreatDoor.L6
