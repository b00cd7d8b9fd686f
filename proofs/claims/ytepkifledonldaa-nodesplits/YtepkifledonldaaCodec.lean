/- There and back (plain mathematics): what is read of a node's bytes; what is read has just these bytes. -/
import Derived.Test.YtepkifledonldaaDecode
import Derived.Lib.Strings
namespace Go.Proofs.Ytepkifledonldaa
open Go.ChangeShapes Go.WideShapes Go.ChangeAt Go.RowKit

theorem bn_extract (s : ByteArray) (a b : Nat) : bn (s.extract a b) = ((bn s).drop a).take (b - a) := by
  unfold bn
  rw [Lib.extract_data, List.map_take, List.map_drop]
theorem bn_back (L : ByteArray) (k : Nat) : bn (L.extract k L.size) = (bn L).drop k := by
  rw [bn_extract, List.take_of_length_le]
  rw [List.length_drop, bn_length]
  exact Nat.le_refl _

/- there -/
theorem read_byte {L : ByteArray} {b : Nat} {r : List Nat} (h : bn L = b :: r) : ∃ L1, byteR L 0 = (b, L1, 0) ∧ bn L1 = r := by
  have hz : 0 < L.size := by rw [← bn_length, h]; simp
  refine ⟨L.extract 1 L.size, ?_, by rw [bn_back, h]; rfl⟩
  unfold byteR
  rw [if_neg (by simp), if_neg (by omega), h]
  rfl
theorem read_short {L : ByteArray} {n : Nat} {r : List Nat} (h : bn L = Pk.shL n ++ r) (hn : n < 18446744073709551616) : ∃ L1, shortR L 0 = (n, L1, 0) ∧ bn L1 = r := by
  have e := Pk.scan_back n r hn
  refine ⟨L.extract (Pk.shL n).length L.size, ?_, ?_⟩
  · unfold shortR
    rw [if_neg (by simp), h, e]
  · rw [bn_back, h, List.drop_append_of_le_length (Nat.le_refl _), List.drop_of_length_le (Nat.le_refl _), List.nil_append]
theorem read_text {L t : ByteArray} {r : List Nat} {most : Int} (h : bn L = txL t ++ r) (ht : (t.size : Int) ≤ most) (hz4 : t.size ≤ 1000000) : ∃ L1, textR L 0 most = (t, L1, 0) ∧ bn L1 = r := by
  unfold txL at h
  have e : Pk.scan (bn L) = (t.size, (Pk.shL t.size).length, 0) := by
    rw [h, List.append_assoc]
    exact Pk.scan_back t.size _ (by omega)
  have hz : L.size = (Pk.shL t.size).length + t.size + r.length := by rw [← bn_length, h, List.length_append, List.length_append, bn_length]
  refine ⟨L.extract ((Pk.shL t.size).length + t.size) L.size, ?_, ?_⟩
  · unfold textR
    rw [if_neg (by simp), textOf_ok e (by omega) (by omega)]
    have e2 : L.extract (Pk.shL t.size).length ((Pk.shL t.size).length + t.size) = t := by
      apply bn_inj
      rw [bn_extract, h, List.append_assoc, List.drop_append_of_le_length (Nat.le_refl _), List.drop_of_length_le (Nat.le_refl _), List.nil_append, Nat.add_sub_cancel_left, List.take_append_of_le_length (by rw [bn_length]; exact Nat.le_refl _), List.take_of_length_le (by rw [bn_length]; exact Nat.le_refl _)]
    rw [e2]
  · rw [bn_back, h]
    have : (Pk.shL t.size ++ bn t).length = (Pk.shL t.size).length + t.size := by rw [List.length_append, bn_length]
    rw [List.drop_append_of_le_length (by omega), List.drop_of_length_le (by omega), List.nil_append]
theorem read_item {L : ByteArray} {x : It} {r : List Nat} (h : bn L = itL x ++ r) (hm : mayI x = true) : ∃ L1, itemR L 0 = (x, L1, 0) ∧ bn L1 = r := by
  simp [mayI] at hm
  unfold itL at h
  rw [List.append_assoc] at h
  obtain ⟨L1, e1, h1⟩ := read_text (most := 272) h (by omega) (by omega)
  obtain ⟨L2, e2, h2⟩ := read_text (most := 160) h1 (by omega) (by omega)
  refine ⟨L2, ?_, h2⟩
  unfold itemR
  rw [e1]
  show ((x.1, (textR L1 0 160).1), (textR L1 0 160).2.1, (textR L1 0 160).2.2) = _
  rw [e2]
theorem wrap_small (p : Int) (h : 0 ≤ p ∧ p < 9223372036854775808) : wrap64 p = p := by unfold wrap64; omega
theorem read_kid {L : ByteArray} {x : Kd} {r : List Nat} (h : bn L = kdL x ++ r) (hm : mayK x = true) : ∃ L1, kidR L 0 = (x, L1, 0) ∧ bn L1 = r := by
  simp [mayK] at hm
  unfold kdL at h
  rw [List.append_assoc] at h
  obtain ⟨L1, e1, h1⟩ := read_text (most := 272) h (by omega) (by omega)
  obtain ⟨L2, e2, h2⟩ := read_short h1 (by omega)
  refine ⟨L2, ?_, h2⟩
  unfold kidR
  rw [e1]
  show ((x.1, wrap64 ((shortR L1 0).1 : Int)), (shortR L1 0).2.1, (shortR L1 0).2.2) = _
  rw [e2]
  have e : ((x.2.toNat : Nat) : Int) = x.2 := Int.toNat_of_nonneg (by omega)
  show ((x.1, wrap64 ((x.2.toNat : Nat) : Int)), L2, 0) = _
  rw [e, wrap_small _ (by omega)]
theorem read_list {α : Type} {f : ByteArray → Nat → α × ByteArray × Nat} {g : α → List Nat} {P : α → Prop} (hf : ∀ L x r, bn L = g x ++ r → P x → ∃ L1, f L 0 = (x, L1, 0) ∧ bn L1 = r)
    (l : List α) (r : List Nat) (L : ByteArray) (h : bn L = l.flatMap g ++ r) (hP : ∀ x ∈ l, P x) : ∃ L1, listR f l.length L 0 = (l, L1, 0) ∧ bn L1 = r := by
  induction l generalizing L with
  | nil => exact ⟨L, rfl, by simpa using h⟩
  | cons x t ih =>
    rw [List.flatMap_cons, List.append_assoc] at h
    obtain ⟨L1, e1, h1⟩ := hf L x _ h (hP x List.mem_cons_self)
    obtain ⟨L2, e2, h2⟩ := ih L1 h1 (fun y hy => hP y (List.mem_cons_of_mem _ hy))
    refine ⟨L2, ?_, h2⟩
    rw [List.length_cons, listR_next, e1]
    show (x :: (listR f t.length L1 0).1, (listR f t.length L1 0).2) = _
    rw [e2]
theorem flat_ge {α : Type} {g : α → List Nat} (hg : ∀ x, 0 < (g x).length) (l : List α) : l.length ≤ (l.flatMap g).length := by
  induction l with
  | nil => simp
  | cons x t ih =>
    rw [List.flatMap_cons, List.length_append, List.length_cons]
    have := hg x
    omega
theorem itL_pos (x : It) : 0 < (itL x).length := by unfold itL; rw [List.length_append]; have := txL_pos x.1; omega
theorem kdL_pos (x : Kd) : 0 < (kdL x).length := by unfold kdL; rw [List.length_append]; have := txL_pos x.1; omega
/-- a right node's bytes are read as the node -/
theorem read_right {n : Nd} {S : ByteArray} (h : bn S = ndL n) (hr : rightB n = true) (hz : S.size ≤ 1007) :
    ((byteR S 0).1 = 1 ∨ (byteR S 0).1 = 2) ∧ (shortR (byteR S 0).2.1 (byteR S 0).2.2).1 ≤ 1007 ∧ ∃ L1, readN S = (n, L1, 0) ∧ L1.size = 0 := by
  have hlen : (ndL n).length ≤ 1007 := by rw [← h, bn_length]; exact hz
  obtain ⟨lf, its, kds⟩ := n
  cases lf with
  | true =>
    obtain ⟨rfl, _, hrise⟩ := right_leaf hr
    have hb : bn S = 1 :: (Pk.shL its.length ++ (its.flatMap itL ++ [])) := by rw [h, List.append_nil]; rfl
    have hn : its.length ≤ 1007 := by
      have := flat_ge itL_pos its
      have e : (ndL ⟨true, its, []⟩).length = 1 + ((Pk.shL its.length).length + (its.flatMap itL).length) := by
        show (1 :: (Pk.shL its.length ++ its.flatMap itL)).length = _
        rw [List.length_cons, List.length_append]
        omega
      omega
    obtain ⟨L1, e1, h1⟩ := read_byte hb
    obtain ⟨L2, e2, h2⟩ := read_short h1 (by omega)
    obtain ⟨L3, e3, h3⟩ := read_list (P := fun x => mayI x = true) (fun L x r => read_item) its [] L2 h2 (rise_all _ _ hrise)
    rw [e1]
    refine ⟨.inl rfl, ?_, L3, ?_, ?_⟩
    · show (shortR L1 0).1 ≤ _
      rw [e2]
      exact hn
    · unfold readN
      rw [e1, if_pos rfl]
      have ec : countR itemR L1 0 = (its, L3, 0) := by
        unfold countR
        rw [e2]
        exact e3
      show (({ leaf := true, its := (countR itemR L1 0).1, kds := [] } : Nd), (countR itemR L1 0).2) = _
      rw [ec]
    · rw [← bn_length, h3]; rfl
  | false =>
    obtain ⟨rfl, _, hrise⟩ := right_kids hr
    have hb : bn S = 2 :: (Pk.shL kds.length ++ (kds.flatMap kdL ++ [])) := by rw [h, List.append_nil]; rfl
    have hn : kds.length ≤ 1007 := by
      have := flat_ge kdL_pos kds
      have e : (ndL ⟨false, [], kds⟩).length = 1 + ((Pk.shL kds.length).length + (kds.flatMap kdL).length) := by
        show (2 :: (Pk.shL kds.length ++ kds.flatMap kdL)).length = _
        rw [List.length_cons, List.length_append]
        omega
      omega
    obtain ⟨L1, e1, h1⟩ := read_byte hb
    obtain ⟨L2, e2, h2⟩ := read_short h1 (by omega)
    obtain ⟨L3, e3, h3⟩ := read_list (P := fun x => mayK x = true) (fun L x r => read_kid) kds [] L2 h2 (rise_all _ _ hrise)
    rw [e1]
    refine ⟨.inr rfl, ?_, L3, ?_, ?_⟩
    · show (shortR L1 0).1 ≤ _
      rw [e2]
      exact hn
    · unfold readN
      rw [e1, if_neg (by simp), if_pos rfl]
      have ec : countR kidR L1 0 = (kds, L3, 0) := by
        unfold countR
        rw [e2]
        exact e3
      show (({ leaf := false, its := [], kds := (countR kidR L1 0).1 } : Nd), (countR kidR L1 0).2) = _
      rw [ec]
    · rw [← bn_length, h3]; rfl

/- and back -/
theorem one_byte {L : ByteArray} (h : (byteR L 0).2.2 = 0) : bn L = (byteR L 0).1 :: bn (byteR L 0).2.1 := by
  unfold byteR at *
  rw [if_neg (by simp)] at h ⊢
  by_cases h0 : L.size = 0
  · rw [if_pos h0] at h; simp at h
  · rw [if_neg h0]
    have hz : (bn L).length ≠ 0 := by rw [bn_length]; exact h0
    show bn L = (bn L).getD 0 0 :: bn (L.extract 1 L.size)
    rw [bn_back]
    cases hb : bn L with
    | nil => rw [hb] at hz; simp at hz
    | cons x t => rfl
theorem one_short {L : ByteArray} (h : (shortR L 0).2.2 = 0) : bn L = Pk.shL (shortR L 0).1 ++ bn (shortR L 0).2.1 := by
  unfold shortR at *
  rw [if_neg (by simp)] at h ⊢
  rcases scan_cases L with ⟨n, k, hsc, _, _, _, _, hk, htk⟩ | ⟨er, hsc, h0, _, _⟩
  · rw [hsc]
    show bn L = Pk.shL n ++ bn (L.extract k L.size)
    rw [bn_back, ← htk, List.take_append_drop]
  · rw [hsc] at h
    exact absurd h h0
theorem one_text {L : ByteArray} {most : Int} (h : (textR L 0 most).2.2 = 0) : bn L = txL (textR L 0 most).1 ++ bn (textR L 0 most).2.1 := by
  unfold textR at *
  rw [if_neg (by simp)] at h ⊢
  rcases scan_cases L with ⟨n, k, hsc, _, _, _, hks, hk, htk⟩ | ⟨er, hsc, h0, _, _⟩
  · by_cases h1 : most < 0 ∨ most < (n : Int)
    · rw [textOf_long hsc h1] at h; simp at h
    · by_cases h2 : L.size - k < n
      · rw [textOf_short hsc h1 h2] at h; simp at h
      · rw [textOf_ok hsc h1 h2]
        have hz : (L.extract k (k + n)).size = n := by rw [ByteArray.size_extract]; omega
        show bn L = txL (L.extract k (k + n)) ++ bn (L.extract (k + n) L.size)
        unfold txL
        rw [hz, ← htk, bn_back, bn_extract, Nat.add_sub_cancel_left, ← List.drop_drop, List.append_assoc, List.take_append_drop, List.take_append_drop]
  · rw [textOf_bad most hsc h0] at h
    exact absurd h h0
theorem one_item {L : ByteArray} (h : (itemR L 0).2.2 = 0) : bn L = itL (itemR L 0).1 ++ bn (itemR L 0).2.1 := by
  have h0 := itemR_ok h
  have h1 := one_text h0
  have e : itemR L 0 = (((textR L 0 272).1, (textR (textR L 0 272).2.1 0 160).1), (textR (textR L 0 272).2.1 0 160).2.1, (textR (textR L 0 272).2.1 0 160).2.2) := by unfold itemR; rw [h0]
  rw [e] at h ⊢
  simp only at h ⊢
  have h2 := one_text (L := (textR L 0 272).2.1) (most := 160) h
  unfold itL
  rw [List.append_assoc, ← h2, ← h1]
theorem one_kid {L : ByteArray} (h : (kidR L 0).2.2 = 0) (hm : mayK (kidR L 0).1 = true) : bn L = kdL (kidR L 0).1 ++ bn (kidR L 0).2.1 := by
  have h0 := kidR_ok h
  have h1 := one_text h0
  have e : kidR L 0 = (((textR L 0 272).1, wrap64 ((shortR (textR L 0 272).2.1 0).1 : Int)), (shortR (textR L 0 272).2.1 0).2.1, (shortR (textR L 0 272).2.1 0).2.2) := by unfold kidR; rw [h0]
  rw [e] at h hm ⊢
  simp only at h hm ⊢
  have h2 := one_short (L := (textR L 0 272).2.1) h
  have hlt := shortR_lt (textR L 0 272).2.1 0
  simp [mayK] at hm
  unfold kdL
  have en : (wrap64 ((shortR (textR L 0 272).2.1 0).1 : Int)).toNat = (shortR (textR L 0 272).2.1 0).1 := by
    unfold wrap64 at *
    omega
  show bn L = txL (textR L 0 272).1 ++ Pk.shL (wrap64 ((shortR (textR L 0 272).2.1 0).1 : Int)).toNat ++ bn (shortR (textR L 0 272).2.1 0).2.1
  rw [en, List.append_assoc, ← h2, ← h1]
theorem one_list {α : Type} {f : ByteArray → Nat → α × ByteArray × Nat} {g : α → List Nat} {P : α → Prop} (hf : ∀ L, (f L 0).2.2 = 0 → P (f L 0).1 → bn L = g (f L 0).1 ++ bn (f L 0).2.1)
    (c : Nat) (L : ByteArray) (h : (listR f c L 0).2.2 = 0) (hP : ∀ x ∈ (listR f c L 0).1, P x) : (listR f c L 0).1.length = c ∧ bn L = (listR f c L 0).1.flatMap g ++ bn (listR f c L 0).2.1 := by
  induction c generalizing L with
  | zero => exact ⟨rfl, rfl⟩
  | succ c ih =>
    rw [listR_next] at h hP ⊢
    by_cases h0 : (f L 0).2.2 = 0
    · rw [h0] at h hP ⊢
      obtain ⟨i1, i2⟩ := ih (f L 0).2.1 h (fun x hx => hP x (List.mem_cons_of_mem _ hx))
      have h1 := hf L h0 (hP _ List.mem_cons_self)
      refine ⟨by show _ + 1 = _; rw [i1], ?_⟩
      show bn L = ((f L 0).1 :: (listR f c (f L 0).2.1 0).1).flatMap g ++ bn (listR f c (f L 0).2.1 0).2.1
      rw [List.flatMap_cons, List.append_assoc, ← i2, ← h1]
    · rw [listR_err f c _ _ h0] at h
      exact absurd h h0
theorem listR_e {α : Type} {f : ByteArray → Nat → α × ByteArray × Nat} {c : Nat} {L : ByteArray} {e : Nat} (h : (listR f c L e).2.2 = 0) : e = 0 := by
  by_cases he : e = 0
  · exact he
  · rw [listR_err f c L e he] at h
    exact h
theorem shortR_e {L : ByteArray} {e : Nat} (h : (shortR L e).2.2 = 0) : e = 0 := by
  by_cases he : e = 0
  · exact he
  · rw [shortR_keeps L e he] at h
    exact h
/-- what is read, without an error, as a right node has just these bytes -/
theorem one_node {S : ByteArray} (hk : (byteR S 0).1 = 1 ∨ (byteR S 0).1 = 2) (he : (readN S).2.2 = 0) (hl : (readN S).2.1.size = 0) (hr : rightB (readN S).1 = true) : bn S = ndL (readN S).1 := by
  have hnil : ∀ L : ByteArray, L.size = 0 → bn L = [] := fun L h => List.length_eq_zero_iff.1 (by rw [bn_length]; exact h)
  by_cases h1 : (byteR S 0).1 = 1
  · have e : readN S = (⟨true, (countR itemR (byteR S 0).2.1 (byteR S 0).2.2).1, []⟩, (countR itemR (byteR S 0).2.1 (byteR S 0).2.2).2) := by unfold readN; rw [if_pos h1]
    rw [e] at he hl hr ⊢
    have e2 := listR_e he
    have e1 := shortR_e e2
    obtain ⟨_, _, hrise⟩ := right_leaf hr
    unfold countR at he hl hrise ⊢
    rw [e1] at he hl hrise e2 ⊢
    rw [e2] at he hl hrise ⊢
    obtain ⟨i1, i2⟩ := one_list (f := itemR) (g := itL) (P := fun x => mayI x = true) (fun L h _ => one_item h) _ _ he (rise_all _ _ hrise)
    have b0 := one_byte e1
    have b1 := one_short e2
    rw [h1] at b0
    show bn S = 1 :: (Pk.shL _ ++ _)
    have i2' := i2
    rw [hnil _ hl, List.append_nil] at i2'
    rw [i1, ← i2', ← b1, ← b0]
  · have h2 : (byteR S 0).1 = 2 := by omega
    have e : readN S = (⟨false, [], (countR kidR (byteR S 0).2.1 (byteR S 0).2.2).1⟩, (countR kidR (byteR S 0).2.1 (byteR S 0).2.2).2) := by unfold readN; rw [if_neg h1, if_pos h2]
    rw [e] at he hl hr ⊢
    have e2 := listR_e he
    have e1 := shortR_e e2
    obtain ⟨_, _, hrise⟩ := right_kids hr
    unfold countR at he hl hrise ⊢
    rw [e1] at he hl hrise e2 ⊢
    rw [e2] at he hl hrise ⊢
    obtain ⟨i1, i2⟩ := one_list (f := kidR) (g := kdL) (P := fun x => mayK x = true) (fun L h hm => one_kid h hm) _ _ he (rise_all _ _ hrise)
    have b0 := one_byte e1
    have b1 := one_short e2
    rw [h2] at b0
    show bn S = 2 :: (Pk.shL _ ++ _)
    have i2' := i2
    rw [hnil _ hl, List.append_nil] at i2'
    rw [i1, ← i2', ← b1, ← b0]

/-- the document's own way: the node, or the error -/
def refDec (S : ByteArray) : Nd × Nat :=
  if 1007 < S.size ∨ ¬ ((byteR S 0).1 = 1 ∨ (byteR S 0).1 = 2) ∨ 1007 < (shortR (byteR S 0).2.1 (byteR S 0).2.2).1 then (nd0, 60)
  else if (readN S).2.2 = 0 ∧ (readN S).2.1.size = 0 ∧ rightB (readN S).1 = true then ((readN S).1, 0) else (nd0, 60)
theorem refDec_eq (S : ByteArray) : refDec S = decodeN S := by
  unfold decodeN
  by_cases h : S.size ≤ 1007 ∧ encodeN (readN S).1 = (S, 0)
  · rw [if_pos h]
    obtain ⟨hz, he⟩ := h
    unfold encodeN at he
    split at he
    · rename_i hc
      have hr := checkN_right hc
      have hb : bn S = ndL (readN S).1 := by
        have := congrArg bn (Prod.ext_iff.1 he).1
        rw [bn_strOf _ (ndL_lt _)] at this
        exact this.symm
      obtain ⟨h1, h2, L1, h3, h4⟩ := read_right hb hr hz
      unfold refDec
      rw [if_neg (by omega), if_pos ⟨by rw [h3], by rw [h3]; exact h4, hr⟩]
    · rename_i hc
      exact absurd (Prod.ext_iff.1 he).2 hc
  · rw [if_neg h]
    unfold refDec
    by_cases h1 : 1007 < S.size ∨ ¬ ((byteR S 0).1 = 1 ∨ (byteR S 0).1 = 2) ∨ 1007 < (shortR (byteR S 0).2.1 (byteR S 0).2.2).1
    · rw [if_pos h1]
    · rw [if_neg h1]
      by_cases h2 : (readN S).2.2 = 0 ∧ (readN S).2.1.size = 0 ∧ rightB (readN S).1 = true
      · exfalso
        obtain ⟨a, b, c⟩ := h2
        have hb := one_node (by omega) a b c
        have hz : (ndL (readN S).1).length ≤ 1007 := by rw [← hb, bn_length]; omega
        refine h ⟨by omega, ?_⟩
        unfold encodeN
        have hc : checkN (readN S).1 = 0 := by unfold checkN; rw [if_pos c, if_neg (by omega)]
        rw [if_pos hc, ← hb, strOf_bn]
      · rw [if_neg h2]
end Go.Proofs.Ytepkifledonldaa
