/- Texts that the proof needs, one behind the other. -/
import Derived.Test.YtdelobaiicoogaaGreatDoorMar
import Derived.Test.YtdelobaiicoogaaGreatDoorMaj
import Derived.Deep.QuietTactic
import Derived.BigQuiet
import Derived.Lib.Strings
import Derived.Test.YtdelobaiicoogaaGreatDoorMah
import Derived.OwnWalk
import Derived.Test.YtdelobaiicoogaaGreatDoorMai
/- placeOf; what Put makes of a leaf's items; isPast. -/
namespace Go.Proofs.YtdelobaiicoogaaGreatDoor
open Go.ChangeShapes Go.WideShapes Go.ChangeAt Go.RowKit

/-- where a key stands among items, or would -/
def placeN (its : List L6.It) (key : ByteArray) : Nat × Nat :=
  ((L6.findK (its.map (fun x => x.1)) key).1, if (L6.findK (its.map (fun x => x.1)) key).2 = true then (L6.findK (its.map (fun x => x.1)) key).1 + 1 else (L6.findK (its.map (fun x => x.1)) key).1)
theorem findK_le : ∀ (ks : List ByteArray) (key : ByteArray), (L6.findK ks key).1 ≤ ks.length ∧ ((L6.findK ks key).2 = true → (L6.findK ks key).1 < ks.length)
  | [], _ => ⟨Nat.le_refl _, fun h => by simp [L6.findK] at h⟩
  | k :: t, key => by
    have ih := findK_le t key
    unfold L6.findK
    split
    · exact ⟨by simp only [List.length_cons]; omega, fun h => by simp only [List.length_cons]; have := ih.2 h; omega⟩
    · exact ⟨Nat.zero_le _, fun _ => by simp⟩
theorem placeN_le (its : List L6.It) (key : ByteArray) : (placeN its key).1 ≤ (placeN its key).2 ∧ (placeN its key).2 ≤ its.length := by
  have h := findK_le (its.map (fun x => x.1)) key
  rw [List.length_map] at h
  unfold placeN
  simp only
  split
  · rename_i h1
    have := h.2 h1
    omega
  · omega
set_option maxHeartbeats 1000000 in
set_option maxRecDepth 20000 in
theorem placeOf_any (its : List L6.It) (ai : Option Addr) (ci : Nat) (key : ByteArray) (w : World) (hr : L6.Row itV w ai its) (hl : its.length ≤ 100000) :
    Calls Tryz.prog 47 #[.slice ai its.length ci, .string key] w fun e w' => e = .returned (.tuple #[.int .i64 ((placeN its key).1 : Int), .int .i64 ((placeN its key).2 : Int)]) ∧ Below w.heap.size w w' := by
  have HF := hide (L6.find_any ⟨true, its, []⟩ ai none ci 0 key w ⟨hr, .inl rfl⟩ (by show its.length ≤ _; omega) (Nat.zero_le _))
  have hk : L6.keysN ⟨true, its, []⟩ = its.map (fun x => x.1) := rfl
  rw [hk] at HF
  have hle := (findK_le (its.map (fun x => x.1)) key).1
  rw [List.length_map] at hle
  unfold placeN
  generalize L6.findK (its.map (fun x => x.1)) key = T at *
  obtain ⟨at', is⟩ := T
  simp only at HF hle ⊢
  clear hr hk
  cases is with
  | true =>
    go_enter Tryz.func47, Tryz.ntmps47
    go_wp2_with (go_at_call 43; refine (unhide HF).mono ?_; rintro e w1 ⟨rfl, hb⟩; have HB := hide hb; clear hb)
    go_ret2
    exact ⟨by simp, unhide HB⟩
  | false =>
    go_enter Tryz.func47, Tryz.ntmps47
    go_wp2_with (go_at_call 43; refine (unhide HF).mono ?_; rintro e w1 ⟨rfl, hb⟩; have HB := hide hb; clear hb)
    go_ret2
    exact ⟨by simp, unhide HB⟩
/-- is a key at or above one? -/
def pastB (key t : ByteArray) : Bool := if t = ⟨#[]⟩ then false else !(L6.less key t)
set_option maxHeartbeats 1000000 in
theorem isPast_any (key t : ByteArray) (w : World) : Calls Tryz.prog 72 #[.string key, .string t] w fun e w' => e = .returned (.bool (pastB key t)) ∧ w' = w := by
  by_cases h : t = ⟨#[]⟩
  · subst h
    have h1 := L6.str_same ⟨#[]⟩
    go_enter Tryz.func72, Tryz.ntmps72
    go_wp2
    go_ret
    exact ⟨by simp [pastB], rfl⟩
  · have h1 := L6.str_neq h
    have h2 : t.toList.isEmpty = false := by
      cases hE : t.toList with
      | nil => rw [hE] at h1; simp at h1
      | cons x r => rfl
    have HP : Hid (pastB key t = !(L6.less key t)) := by show _ = _; unfold pastB; rw [if_neg h]
    clear h
    go_enter Tryz.func72, Tryz.ntmps72
    go_wp2
    refine bodyPost_ret (results_tmp rfl _ _ _) rfl ?_
    rw [unhide HP]
    refine ⟨?_, rfl⟩
    unfold L6.less
    simp
end Go.Proofs.YtdelobaiicoogaaGreatDoor

/- Same, of two nodes that have the same entries. -/
namespace Go.Proofs.YtdelobaiicoogaaGreatDoor.L6
open Go.ChangeShapes Go.WideShapes Go.ChangeAt Go.RowKit


end Go.Proofs.YtdelobaiicoogaaGreatDoor.L6

/- There and back (plain mathematics): what is read of a node's bytes; what is read has just these bytes. -/
namespace Go.Proofs.YtdelobaiicoogaaGreatDoor.L6
open Go.ChangeShapes Go.WideShapes Go.ChangeAt Go.RowKit

theorem bn_extract (s : ByteArray) (a b : Nat) : bn (s.extract a b) = ((bn s).drop a).take (b - a) := by
  unfold bn
  rw [Lib.extract_data, List.map_take, List.map_drop]
theorem bn_back (L : ByteArray) (k : Nat) : bn (L.extract k L.size) = (bn L).drop k := by
  rw [bn_extract, List.take_of_length_le]
  rw [List.length_drop, bn_length]
  exact Nat.le_refl _

/- there -/
theorem read_byte {L : ByteArray} {b : Nat} {r : List Nat} (h : bn L = b :: r) : ∃ L1, byteR L 0 = (b, L1, 0) ∧ bn L1 = r := by
  have hz : 0 < L.size := by rw [← bn_length, h]; simp
  refine ⟨L.extract 1 L.size, ?_, by rw [bn_back, h]; rfl⟩
  unfold byteR
  rw [if_neg (by simp), if_neg (by omega), h]
  rfl
theorem read_short {L : ByteArray} {n : Nat} {r : List Nat} (h : bn L = Pk.shL n ++ r) (hn : n < 18446744073709551616) : ∃ L1, shortR L 0 = (n, L1, 0) ∧ bn L1 = r := by
  have e := Pk.scan_back n r hn
  refine ⟨L.extract (Pk.shL n).length L.size, ?_, ?_⟩
  · unfold shortR
    rw [if_neg (by simp), h, e]
  · rw [bn_back, h, List.drop_append_of_le_length (Nat.le_refl _), List.drop_of_length_le (Nat.le_refl _), List.nil_append]
theorem read_text {L t : ByteArray} {r : List Nat} {most : Int} (h : bn L = txL t ++ r) (ht : (t.size : Int) ≤ most) (hz4 : t.size ≤ 1000000) : ∃ L1, textR L 0 most = (t, L1, 0) ∧ bn L1 = r := by
  unfold txL at h
  have e : Pk.scan (bn L) = (t.size, (Pk.shL t.size).length, 0) := by
    rw [h, List.append_assoc]
    exact Pk.scan_back t.size _ (by omega)
  have hz : L.size = (Pk.shL t.size).length + t.size + r.length := by rw [← bn_length, h, List.length_append, List.length_append, bn_length]
  refine ⟨L.extract ((Pk.shL t.size).length + t.size) L.size, ?_, ?_⟩
  · unfold textR
    rw [if_neg (by simp), textOf_ok e (by omega) (by omega)]
    have e2 : L.extract (Pk.shL t.size).length ((Pk.shL t.size).length + t.size) = t := by
      apply bn_inj
      rw [bn_extract, h, List.append_assoc, List.drop_append_of_le_length (Nat.le_refl _), List.drop_of_length_le (Nat.le_refl _), List.nil_append, Nat.add_sub_cancel_left, List.take_append_of_le_length (by rw [bn_length]; exact Nat.le_refl _), List.take_of_length_le (by rw [bn_length]; exact Nat.le_refl _)]
    rw [e2]
  · rw [bn_back, h]
    have : (Pk.shL t.size ++ bn t).length = (Pk.shL t.size).length + t.size := by rw [List.length_append, bn_length]
    rw [List.drop_append_of_le_length (by omega), List.drop_of_length_le (by omega), List.nil_append]
theorem read_item {L : ByteArray} {x : It} {r : List Nat} (h : bn L = itL x ++ r) (hm : mayI x = true) : ∃ L1, itemR L 0 = (x, L1, 0) ∧ bn L1 = r := by
  simp [mayI] at hm
  unfold itL at h
  rw [List.append_assoc] at h
  obtain ⟨L1, e1, h1⟩ := read_text (most := 272) h (by omega) (by omega)
  obtain ⟨L2, e2, h2⟩ := read_text (most := 160) h1 (by omega) (by omega)
  refine ⟨L2, ?_, h2⟩
  unfold itemR
  rw [e1]
  show ((x.1, (textR L1 0 160).1), (textR L1 0 160).2.1, (textR L1 0 160).2.2) = _
  rw [e2]
theorem wrap_small (p : Int) (h : 0 ≤ p ∧ p < 9223372036854775808) : wrap64 p = p := by unfold wrap64; omega
theorem read_kid {L : ByteArray} {x : Kd} {r : List Nat} (h : bn L = kdL x ++ r) (hm : mayK x = true) : ∃ L1, kidR L 0 = (x, L1, 0) ∧ bn L1 = r := by
  simp [mayK] at hm
  unfold kdL at h
  rw [List.append_assoc] at h
  obtain ⟨L1, e1, h1⟩ := read_text (most := 272) h (by omega) (by omega)
  obtain ⟨L2, e2, h2⟩ := read_short h1 (by omega)
  refine ⟨L2, ?_, h2⟩
  unfold kidR
  rw [e1]
  show ((x.1, wrap64 ((shortR L1 0).1 : Int)), (shortR L1 0).2.1, (shortR L1 0).2.2) = _
  rw [e2]
  have e : ((x.2.toNat : Nat) : Int) = x.2 := Int.toNat_of_nonneg (by omega)
  show ((x.1, wrap64 ((x.2.toNat : Nat) : Int)), L2, 0) = _
  rw [e, wrap_small _ (by omega)]
theorem read_list {α : Type} {f : ByteArray → Nat → α × ByteArray × Nat} {g : α → List Nat} {P : α → Prop} (hf : ∀ L x r, bn L = g x ++ r → P x → ∃ L1, f L 0 = (x, L1, 0) ∧ bn L1 = r)
    (l : List α) (r : List Nat) (L : ByteArray) (h : bn L = l.flatMap g ++ r) (hP : ∀ x ∈ l, P x) : ∃ L1, listR f l.length L 0 = (l, L1, 0) ∧ bn L1 = r := by
  induction l generalizing L with
  | nil => exact ⟨L, rfl, by simpa using h⟩
  | cons x t ih =>
    rw [List.flatMap_cons, List.append_assoc] at h
    obtain ⟨L1, e1, h1⟩ := hf L x _ h (hP x List.mem_cons_self)
    obtain ⟨L2, e2, h2⟩ := ih L1 h1 (fun y hy => hP y (List.mem_cons_of_mem _ hy))
    refine ⟨L2, ?_, h2⟩
    rw [List.length_cons, listR_next, e1]
    show (x :: (listR f t.length L1 0).1, (listR f t.length L1 0).2) = _
    rw [e2]
theorem flat_ge {α : Type} {g : α → List Nat} (hg : ∀ x, 0 < (g x).length) (l : List α) : l.length ≤ (l.flatMap g).length := by
  induction l with
  | nil => simp
  | cons x t ih =>
    rw [List.flatMap_cons, List.length_append, List.length_cons]
    have := hg x
    omega
theorem itL_pos (x : It) : 0 < (itL x).length := by unfold itL; rw [List.length_append]; have := txL_pos x.1; omega
theorem kdL_pos (x : Kd) : 0 < (kdL x).length := by unfold kdL; rw [List.length_append]; have := txL_pos x.1; omega
/-- a right node's bytes are read as the node -/
theorem read_right {n : Nd} {S : ByteArray} (h : bn S = ndL n) (hr : rightB n = true) (hz : S.size ≤ 1007) :
    ((byteR S 0).1 = 1 ∨ (byteR S 0).1 = 2) ∧ (shortR (byteR S 0).2.1 (byteR S 0).2.2).1 ≤ 1007 ∧ ∃ L1, readN S = (n, L1, 0) ∧ L1.size = 0 := by
  have hlen : (ndL n).length ≤ 1007 := by rw [← h, bn_length]; exact hz
  obtain ⟨lf, its, kds⟩ := n
  cases lf with
  | true =>
    obtain ⟨rfl, _, hrise⟩ := right_leaf hr
    have hb : bn S = 1 :: (Pk.shL its.length ++ (its.flatMap itL ++ [])) := by rw [h, List.append_nil]; rfl
    have hn : its.length ≤ 1007 := by
      have := flat_ge itL_pos its
      have e : (ndL ⟨true, its, []⟩).length = 1 + ((Pk.shL its.length).length + (its.flatMap itL).length) := by
        show (1 :: (Pk.shL its.length ++ its.flatMap itL)).length = _
        rw [List.length_cons, List.length_append]
        omega
      omega
    obtain ⟨L1, e1, h1⟩ := read_byte hb
    obtain ⟨L2, e2, h2⟩ := read_short h1 (by omega)
    obtain ⟨L3, e3, h3⟩ := read_list (P := fun x => mayI x = true) (fun L x r => read_item) its [] L2 h2 (rise_all _ _ hrise)
    rw [e1]
    refine ⟨.inl rfl, ?_, L3, ?_, ?_⟩
    · show (shortR L1 0).1 ≤ _
      rw [e2]
      exact hn
    · unfold readN
      rw [e1, if_pos rfl]
      have ec : countR itemR L1 0 = (its, L3, 0) := by
        unfold countR
        rw [e2]
        exact e3
      show (({ leaf := true, its := (countR itemR L1 0).1, kds := [] } : Nd), (countR itemR L1 0).2) = _
      rw [ec]
    · rw [← bn_length, h3]; rfl
  | false =>
    obtain ⟨rfl, _, hrise⟩ := right_kids hr
    have hb : bn S = 2 :: (Pk.shL kds.length ++ (kds.flatMap kdL ++ [])) := by rw [h, List.append_nil]; rfl
    have hn : kds.length ≤ 1007 := by
      have := flat_ge kdL_pos kds
      have e : (ndL ⟨false, [], kds⟩).length = 1 + ((Pk.shL kds.length).length + (kds.flatMap kdL).length) := by
        show (2 :: (Pk.shL kds.length ++ kds.flatMap kdL)).length = _
        rw [List.length_cons, List.length_append]
        omega
      omega
    obtain ⟨L1, e1, h1⟩ := read_byte hb
    obtain ⟨L2, e2, h2⟩ := read_short h1 (by omega)
    obtain ⟨L3, e3, h3⟩ := read_list (P := fun x => mayK x = true) (fun L x r => read_kid) kds [] L2 h2 (rise_all _ _ hrise)
    rw [e1]
    refine ⟨.inr rfl, ?_, L3, ?_, ?_⟩
    · show (shortR L1 0).1 ≤ _
      rw [e2]
      exact hn
    · unfold readN
      rw [e1, if_neg (by simp), if_pos rfl]
      have ec : countR kidR L1 0 = (kds, L3, 0) := by
        unfold countR
        rw [e2]
        exact e3
      show (({ leaf := false, its := [], kds := (countR kidR L1 0).1 } : Nd), (countR kidR L1 0).2) = _
      rw [ec]
    · rw [← bn_length, h3]; rfl

/- and back -/
theorem one_byte {L : ByteArray} (h : (byteR L 0).2.2 = 0) : bn L = (byteR L 0).1 :: bn (byteR L 0).2.1 := by
  unfold byteR at *
  rw [if_neg (by simp)] at h ⊢
  by_cases h0 : L.size = 0
  · rw [if_pos h0] at h; simp at h
  · rw [if_neg h0]
    have hz : (bn L).length ≠ 0 := by rw [bn_length]; exact h0
    show bn L = (bn L).getD 0 0 :: bn (L.extract 1 L.size)
    rw [bn_back]
    cases hb : bn L with
    | nil => rw [hb] at hz; simp at hz
    | cons x t => rfl
theorem one_short {L : ByteArray} (h : (shortR L 0).2.2 = 0) : bn L = Pk.shL (shortR L 0).1 ++ bn (shortR L 0).2.1 := by
  unfold shortR at *
  rw [if_neg (by simp)] at h ⊢
  rcases scan_cases L with ⟨n, k, hsc, _, _, _, _, hk, htk⟩ | ⟨er, hsc, h0, _, _⟩
  · rw [hsc]
    show bn L = Pk.shL n ++ bn (L.extract k L.size)
    rw [bn_back, ← htk, List.take_append_drop]
  · rw [hsc] at h
    exact absurd h h0
theorem one_text {L : ByteArray} {most : Int} (h : (textR L 0 most).2.2 = 0) : bn L = txL (textR L 0 most).1 ++ bn (textR L 0 most).2.1 := by
  unfold textR at *
  rw [if_neg (by simp)] at h ⊢
  rcases scan_cases L with ⟨n, k, hsc, _, _, _, hks, hk, htk⟩ | ⟨er, hsc, h0, _, _⟩
  · by_cases h1 : most < 0 ∨ most < (n : Int)
    · rw [textOf_long hsc h1] at h; simp at h
    · by_cases h2 : L.size - k < n
      · rw [textOf_short hsc h1 h2] at h; simp at h
      · rw [textOf_ok hsc h1 h2]
        have hz : (L.extract k (k + n)).size = n := by rw [ByteArray.size_extract]; omega
        show bn L = txL (L.extract k (k + n)) ++ bn (L.extract (k + n) L.size)
        unfold txL
        rw [hz, ← htk, bn_back, bn_extract, Nat.add_sub_cancel_left, ← List.drop_drop, List.append_assoc, List.take_append_drop, List.take_append_drop]
  · rw [textOf_bad most hsc h0] at h
    exact absurd h h0
theorem one_item {L : ByteArray} (h : (itemR L 0).2.2 = 0) : bn L = itL (itemR L 0).1 ++ bn (itemR L 0).2.1 := by
  have h0 := itemR_ok h
  have h1 := one_text h0
  have e : itemR L 0 = (((textR L 0 272).1, (textR (textR L 0 272).2.1 0 160).1), (textR (textR L 0 272).2.1 0 160).2.1, (textR (textR L 0 272).2.1 0 160).2.2) := by unfold itemR; rw [h0]
  rw [e] at h ⊢
  simp only at h ⊢
  have h2 := one_text (L := (textR L 0 272).2.1) (most := 160) h
  unfold itL
  rw [List.append_assoc, ← h2, ← h1]
theorem one_kid {L : ByteArray} (h : (kidR L 0).2.2 = 0) (hm : mayK (kidR L 0).1 = true) : bn L = kdL (kidR L 0).1 ++ bn (kidR L 0).2.1 := by
  have h0 := kidR_ok h
  have h1 := one_text h0
  have e : kidR L 0 = (((textR L 0 272).1, wrap64 ((shortR (textR L 0 272).2.1 0).1 : Int)), (shortR (textR L 0 272).2.1 0).2.1, (shortR (textR L 0 272).2.1 0).2.2) := by unfold kidR; rw [h0]
  rw [e] at h hm ⊢
  simp only at h hm ⊢
  have h2 := one_short (L := (textR L 0 272).2.1) h
  have hlt := shortR_lt (textR L 0 272).2.1 0
  simp [mayK] at hm
  unfold kdL
  have en : (wrap64 ((shortR (textR L 0 272).2.1 0).1 : Int)).toNat = (shortR (textR L 0 272).2.1 0).1 := by
    unfold wrap64 at *
    omega
  show bn L = txL (textR L 0 272).1 ++ Pk.shL (wrap64 ((shortR (textR L 0 272).2.1 0).1 : Int)).toNat ++ bn (shortR (textR L 0 272).2.1 0).2.1
  rw [en, List.append_assoc, ← h2, ← h1]
theorem one_list {α : Type} {f : ByteArray → Nat → α × ByteArray × Nat} {g : α → List Nat} {P : α → Prop} (hf : ∀ L, (f L 0).2.2 = 0 → P (f L 0).1 → bn L = g (f L 0).1 ++ bn (f L 0).2.1)
    (c : Nat) (L : ByteArray) (h : (listR f c L 0).2.2 = 0) (hP : ∀ x ∈ (listR f c L 0).1, P x) : (listR f c L 0).1.length = c ∧ bn L = (listR f c L 0).1.flatMap g ++ bn (listR f c L 0).2.1 := by
  induction c generalizing L with
  | zero => exact ⟨rfl, rfl⟩
  | succ c ih =>
    rw [listR_next] at h hP ⊢
    by_cases h0 : (f L 0).2.2 = 0
    · rw [h0] at h hP ⊢
      obtain ⟨i1, i2⟩ := ih (f L 0).2.1 h (fun x hx => hP x (List.mem_cons_of_mem _ hx))
      have h1 := hf L h0 (hP _ List.mem_cons_self)
      refine ⟨by show _ + 1 = _; rw [i1], ?_⟩
      show bn L = ((f L 0).1 :: (listR f c (f L 0).2.1 0).1).flatMap g ++ bn (listR f c (f L 0).2.1 0).2.1
      rw [List.flatMap_cons, List.append_assoc, ← i2, ← h1]
    · rw [listR_err f c _ _ h0] at h
      exact absurd h h0
theorem listR_e {α : Type} {f : ByteArray → Nat → α × ByteArray × Nat} {c : Nat} {L : ByteArray} {e : Nat} (h : (listR f c L e).2.2 = 0) : e = 0 := by
  by_cases he : e = 0
  · exact he
  · rw [listR_err f c L e he] at h
    exact h
theorem shortR_e {L : ByteArray} {e : Nat} (h : (shortR L e).2.2 = 0) : e = 0 := by
  by_cases he : e = 0
  · exact he
  · rw [shortR_keeps L e he] at h
    exact h
/-- what is read, without an error, as a right node has just these bytes -/
theorem one_node {S : ByteArray} (hk : (byteR S 0).1 = 1 ∨ (byteR S 0).1 = 2) (he : (readN S).2.2 = 0) (hl : (readN S).2.1.size = 0) (hr : rightB (readN S).1 = true) : bn S = ndL (readN S).1 := by
  have hnil : ∀ L : ByteArray, L.size = 0 → bn L = [] := fun L h => List.length_eq_zero_iff.1 (by rw [bn_length]; exact h)
  by_cases h1 : (byteR S 0).1 = 1
  · have e : readN S = (⟨true, (countR itemR (byteR S 0).2.1 (byteR S 0).2.2).1, []⟩, (countR itemR (byteR S 0).2.1 (byteR S 0).2.2).2) := by unfold readN; rw [if_pos h1]
    rw [e] at he hl hr ⊢
    have e2 := listR_e he
    have e1 := shortR_e e2
    obtain ⟨_, _, hrise⟩ := right_leaf hr
    unfold countR at he hl hrise ⊢
    rw [e1] at he hl hrise e2 ⊢
    rw [e2] at he hl hrise ⊢
    obtain ⟨i1, i2⟩ := one_list (f := itemR) (g := itL) (P := fun x => mayI x = true) (fun L h _ => one_item h) _ _ he (rise_all _ _ hrise)
    have b0 := one_byte e1
    have b1 := one_short e2
    rw [h1] at b0
    show bn S = 1 :: (Pk.shL _ ++ _)
    have i2' := i2
    rw [hnil _ hl, List.append_nil] at i2'
    rw [i1, ← i2', ← b1, ← b0]
  · have h2 : (byteR S 0).1 = 2 := by omega
    have e : readN S = (⟨false, [], (countR kidR (byteR S 0).2.1 (byteR S 0).2.2).1⟩, (countR kidR (byteR S 0).2.1 (byteR S 0).2.2).2) := by unfold readN; rw [if_neg h1, if_pos h2]
    rw [e] at he hl hr ⊢
    have e2 := listR_e he
    have e1 := shortR_e e2
    obtain ⟨_, _, hrise⟩ := right_kids hr
    unfold countR at he hl hrise ⊢
    rw [e1] at he hl hrise e2 ⊢
    rw [e2] at he hl hrise ⊢
    obtain ⟨i1, i2⟩ := one_list (f := kidR) (g := kdL) (P := fun x => mayK x = true) (fun L h hm => one_kid h hm) _ _ he (rise_all _ _ hrise)
    have b0 := one_byte e1
    have b1 := one_short e2
    rw [h2] at b0
    show bn S = 2 :: (Pk.shL _ ++ _)
    have i2' := i2
    rw [hnil _ hl, List.append_nil] at i2'
    rw [i1, ← i2', ← b1, ← b0]

/-- the document's own way: the node, or the error -/
def refDec (S : ByteArray) : Nd × Nat :=
  if 1007 < S.size ∨ ¬ ((byteR S 0).1 = 1 ∨ (byteR S 0).1 = 2) ∨ 1007 < (shortR (byteR S 0).2.1 (byteR S 0).2.2).1 then (nd0, 60)
  else if (readN S).2.2 = 0 ∧ (readN S).2.1.size = 0 ∧ rightB (readN S).1 = true then ((readN S).1, 0) else (nd0, 60)
theorem refDec_eq (S : ByteArray) : refDec S = decodeN S := by
  unfold decodeN
  by_cases h : S.size ≤ 1007 ∧ encodeN (readN S).1 = (S, 0)
  · rw [if_pos h]
    obtain ⟨hz, he⟩ := h
    unfold encodeN at he
    split at he
    · rename_i hc
      have hr := checkN_right hc
      have hb : bn S = ndL (readN S).1 := by
        have := congrArg bn (Prod.ext_iff.1 he).1
        rw [bn_strOf _ (ndL_lt _)] at this
        exact this.symm
      obtain ⟨h1, h2, L1, h3, h4⟩ := read_right hb hr hz
      unfold refDec
      rw [if_neg (by omega), if_pos ⟨by rw [h3], by rw [h3]; exact h4, hr⟩]
    · rename_i hc
      exact absurd (Prod.ext_iff.1 he).2 hc
  · rw [if_neg h]
    unfold refDec
    by_cases h1 : 1007 < S.size ∨ ¬ ((byteR S 0).1 = 1 ∨ (byteR S 0).1 = 2) ∨ 1007 < (shortR (byteR S 0).2.1 (byteR S 0).2.2).1
    · rw [if_pos h1]
    · rw [if_neg h1]
      by_cases h2 : (readN S).2.2 = 0 ∧ (readN S).2.1.size = 0 ∧ rightB (readN S).1 = true
      · exfalso
        obtain ⟨a, b, c⟩ := h2
        have hb := one_node (by omega) a b c
        have hz : (ndL (readN S).1).length ≤ 1007 := by rw [← hb, bn_length]; omega
        refine h ⟨by omega, ?_⟩
        unfold encodeN
        have hc : checkN (readN S).1 = 0 := by unfold checkN; rw [if_pos c, if_neg (by omega)]
        rw [if_pos hc, ← hb, strOf_bn]
      · rw [if_neg h2]
end Go.Proofs.YtdelobaiicoogaaGreatDoor.L6

/- What the document's own scan answers. -/
namespace Go.Proofs.YtdelobaiicoogaaGreatDoor.L6
open Go.ChangeShapes Go.WideShapes Go.ChangeAt Go.RowKit

theorem and127 (b : Nat) (hb : b < 256) : bits .and .u8 (b : Int) 127 = ((b % 128 : Nat) : Int) := by
  have h := u8_and_nat b 127 hb (by decide)
  have e : b &&& 127 = b % 128 := Nat.and_two_pow_sub_one_eq_mod b 7
  rw [e] at h
  exact h
theorem and_lo (b : Nat) (hb : b < 128) : bits .and .u8 (b : Int) 127 = (b : Int) := by
  rw [and127 b (by omega)]
  omega
theorem and_hi (b : Nat) (hb : ¬ b < 128) (hb' : b < 256) : bits .and .u8 (b : Int) 127 = (b : Int) - 128 := by
  rw [and127 b hb']
  omega
theorem or_none (n i b : Nat) (hb : b = 0) (hn : n < 2 ^ (7 * i)) (hi : i ≤ 8) : bits .or .u64 (n : Int) (IntKind.u64.wrap 0) = ((n + b * 2 ^ (7 * i) : Nat) : Int) := by
  have h := or_lo n i 0 hn (by decide) hi
  subst hb
  have e : ((0 : Nat) : Int) * 2 ^ (7 * i) = 0 := by simp
  rw [e] at h
  exact h
theorem cast_one (i : Nat) : (i : Int) + 1 = ((i + 1 : Nat) : Int) := by omega
theorem ret3_int {k j l : IntKind} {a a' b b' c c' : Int} (h : a = a') (h' : b = b') (h'' : c = c') : Ending.returned (.tuple #[.int k a, .int j b, .int l c]) = .returned (.tuple #[.int k a', .int j b', .int l c']) := by rw [h, h', h'']

set_option maxRecDepth 10000 in
set_option maxHeartbeats 2000000 in
theorem refScan_any (s : ByteArray) (w : World) (hs : s.size ≤ maxLen) :
    Calls Tryz.prog 203 #[.string s] w fun e w' => e = .returned (.tuple #[.int .u64 ((Pk.scan (bn s)).1 : Int), .int .i64 ((Pk.scan (bn s)).2.1 : Int), .int .i64 ((Pk.scan (bn s)).2.2 : Int)]) ∧ w' = w := by
  unfold maxLen at hs
  go_enter Tryz.func203, Tryz.ntmps203
  go_wp2
  go_loop [5, 6] (fun t j => ∃ i n : Nat, i ≤ s.size ∧ j = .int .i64 i ∧ t = .int .u64 n ∧ At s i n) (fun _ j => 10 - (intOf j).toNat)
  case atStart => exact ⟨0, 0, by omega, rfl, rfl, by omega, by decide, rfl⟩
  case round =>
    obtain ⟨i, n, hi, rfl, rfl, hat⟩ := hrel
    have hi9 : i ≤ 9 := hat.1
    have HA := hide hat
    clear hat
    by_cases hlt : i < s.size
    · have hb : (s[i].toNat : Int) < 256 := by have := s[i].toNat_lt; omega
      by_cases hform : (i = 9 ∧ 1 < s[i].toNat) ∨ (0 < i ∧ s[i].toNat = 0)
      · have HF := hide ((unhide HA).bad hlt hform)
        by_cases h9 : i = 9
        · subst h9
          by_cases h1 : 1 < s[9].toNat
          · clear hform HA
            go_wp2
            go_ret3
            rw [unhide HF]
            exact ⟨rfl, rfl⟩
          · have h0 : s[9].toNat = 0 := by omega
            clear hform HA h1
            go_wp2
            go_ret3
            rw [unhide HF]
            exact ⟨rfl, rfl⟩
        · have h0 : s[i].toNat = 0 := by omega
          have hi0 : 0 < i := by omega
          have h9' : ((i : Int) == 9) = false := beq_eq_false_iff_ne.2 (by omega)
          clear hform HA h9
          go_wp2
          go_ret3
          rw [unhide HF]
          exact ⟨rfl, rfl⟩
      · by_cases h128 : s[i].toNat < 128
        · have HS := hide ((unhide HA).stop hlt hform h128)
          have hand := and_lo s[i].toNat h128
          by_cases h9 : i = 9
          · subst h9
            have h1 : ¬ 1 < s[9].toNat := by omega
            have h0 : 0 < s[9].toNat := by omega
            have HE := hide (or9 n s[9].toNat (unhide HA).2.1 (by omega))
            clear hform HA
            go_wp2
            go_ret3
            rw [unhide HS]
            exact ⟨ret3_int (unhide HE) rfl rfl, rfl⟩
          · have HE := hide (or_lo n i s[i].toNat (unhide HA).2.1 h128 (by omega))
            have h9' : ((i : Int) == 9) = false := beq_eq_false_iff_ne.2 (by omega)
            by_cases hi0 : 0 < i
            · have h0 : 0 < s[i].toNat := by omega
              clear hform HA h9
              go_wp2
              go_ret3
              rw [unhide HS]
              exact ⟨ret3_int (unhide HE) (cast_one i) rfl, rfl⟩
            · by_cases h0 : s[i].toNat = 0
              · have HN := hide (or_none n i s[i].toNat h0 (unhide HA).2.1 (by omega))
                have ha0 : bits .and .u8 (0 : Int) 127 = 0 := and_lo 0 (by decide)
                have HS' : Hid (Pk.scan (bn s) = (n + s[i].toNat * 2 ^ (7 * i), i + 1, 0)) := unhide HS
                clear hform HA h9 HE HS
                generalize n + s[i].toNat * 2 ^ (7 * i) = r at *
                go_wp2
                go_ret3
                rw [unhide HS']
                exact ⟨ret3_int (unhide HN) (cast_one i) rfl, rfl⟩
              · have h0' : 0 < s[i].toNat := by omega
                clear hform HA h9 h0
                go_wp2
                go_ret3
                rw [unhide HS]
                exact ⟨ret3_int (unhide HE) (cast_one i) rfl, rfl⟩
        · have HS := hide ((unhide HA).step hlt hform h128)
          have h9 : ¬ i = 9 := by omega
          have HE := hide (or_hi n i s[i].toNat (unhide HA).2.1 h128 (by omega) (by omega))
          have hand := and_hi s[i].toNat h128 (by omega)
          have h9' : ((i : Int) == 9) = false := beq_eq_false_iff_ne.2 (by omega)
          have hi8 : i < 9 := by omega
          clear hform HA h9
          go_wp2
          go_round
          case rel => exact ⟨i + 1, _, by omega, by go_num, int_eq (unhide HE), unhide HS⟩
          case measure => simp [intOf]; omega
    · have HF := hide ((unhide HA).out (by omega))
      clear HA
      go_wp2
      go_ret3
      rw [unhide HF]
      exact ⟨rfl, rfl⟩
end Go.Proofs.YtdelobaiicoogaaGreatDoor.L6

/- What the document's own reader answers, call by call: the same functions. -/
namespace Go.Proofs.YtdelobaiicoogaaGreatDoor.L6
open Go.ChangeShapes Go.WideShapes Go.ChangeAt Go.RowKit

/-- the document's reader in memory -/
def Rm (w : World) (r : Nat) (L : ByteArray) (e : Nat) : Prop := w.heap[r]? = some (.cells #[.string L, .int .i64 (e : Int)] 290 (0, 0))
theorem Rm.cell0 {w : World} {r e : Nat} {L : ByteArray} (h : Rm w r L e) : w.cell? ⟨r, 0, none⟩ = some (.string L) := by
  unfold Rm at h
  simp [World.cell?, h]
theorem Rm.cell1 {w : World} {r e : Nat} {L : ByteArray} (h : Rm w r L e) : w.cell? ⟨r, 1, none⟩ = some (.int .i64 (e : Int)) := by
  unfold Rm at h
  simp [World.cell?, h]
theorem Rm.free {w : World} {r e : Nat} {L : ByteArray} (h : Rm w r L e) (i : Nat) : w.frozen? ⟨r, i, none⟩ = false := by
  unfold Rm at h
  simp [World.frozen?, h]
theorem Rm.lt {w : World} {r e : Nat} {L : ByteArray} (h : Rm w r L e) : r < w.heap.size := (Array.getElem?_eq_some_iff.1 h).1
theorem Rm.setErr {w : World} {r e : Nat} {L : ByteArray} (h : Rm w r L e) (e' : Nat) : Rm (w.setCell ⟨r, 1, none⟩ (.int .i64 (e' : Int))) r L e' := by
  unfold Rm at *
  simp [World.setCell, Array.getElem?_modify, h]
theorem Rm.setLeft {w : World} {r e : Nat} {L : ByteArray} (h : Rm w r L e) (L' : ByteArray) : Rm (w.setCell ⟨r, 0, none⟩ (.string L')) r L' e := by
  unfold Rm at *
  simp [World.setCell, Array.getElem?_modify, h]
def ToldM (w w' : World) (r : Nat) (L : ByteArray) (e : Nat) : Prop := w.grownBy w' (some r) ∧ Rm w' r L e
theorem ToldM.refl {w : World} {r e : Nat} {L : ByteArray} (h : Rm w r L e) : ToldM w w r L e := ⟨grown_refl _ _, h⟩
theorem ToldM.err {w : World} {r e : Nat} {L : ByteArray} (h : Rm w r L e) (e' : Nat) : ToldM w (w.setCell ⟨r, 1, none⟩ (.int .i64 (e' : Int))) r L e' := ⟨grown_set _ _ _ _, h.setErr e'⟩
theorem ToldM.left {w : World} {r e : Nat} {L : ByteArray} (h : Rm w r L e) (L' : ByteArray) : ToldM w (w.setCell ⟨r, 0, none⟩ (.string L')) r L' e := ⟨grown_set _ _ _ _, h.setLeft L'⟩
theorem ToldM.both {w : World} {r e : Nat} {L : ByteArray} (h : Rm w r L e) (e' : Nat) (L' : ByteArray) : ToldM w ((w.setCell ⟨r, 1, none⟩ (.int .i64 (e' : Int))).setCell ⟨r, 0, none⟩ (.string L')) r L' e' :=
  ⟨grown_trans (grown_set _ _ _ _) (grown_set _ _ _ _), (h.setErr e').setLeft L'⟩

/- Byte -/
set_option maxRecDepth 10000 in
set_option maxHeartbeats 1000000 in
theorem refByte_any (r e : Nat) (L : ByteArray) (w : World) (hr : Rm w r L e) (hL : L.size ≤ 1000000) :
    Calls Tryz.prog 171 #[.pointer (some ⟨r, 0, none⟩)] w fun x w' => x = .returned (.int .u8 ((byteR L e).1 : Int)) ∧ ToldM w w' r (byteR L e).2.1 (byteR L e).2.2 := by
  have h0 := hr.cell0
  have h1 := hr.cell1
  have f0 := hr.free 0
  have f1 := hr.free 1
  have HR := hide hr
  clear hr
  unfold byteR
  by_cases he : e ≠ 0
  · rw [if_pos he]
    have hne : ((e : Int) == 0) = false := beq_eq_false_iff_ne.2 (by omega)
    have hne2 : ((e : Int) != 0) = true := bne_iff_ne.2 (by omega)
    clear he
    go_enter Tryz.func171, Tryz.ntmps171
    go_wp2
    go_ret
    exact ⟨rfl, .refl (unhide HR)⟩
  · obtain rfl : e = 0 := by omega
    rw [if_neg he]
    clear he
    by_cases hz : L.size = 0
    · rw [if_pos hz]
      have hemp : L.toList.isEmpty = true := by rw [ByteArray.toList_eq, List.isEmpty_iff, List.eq_nil_iff_length_eq_zero, Array.length_toList]; exact hz
      clear hz
      go_enter Tryz.func171, Tryz.ntmps171
      go_wp2
      go_ret
      exact ⟨rfl, .err (unhide HR) 20⟩
    · rw [if_neg hz]
      have hp : 0 < L.size := by omega
      have hfull := full_of hp
      have HB := hide (byte0 L hp)
      clear hz
      go_enter Tryz.func171, Tryz.ntmps171
      go_wp2
      go_ret
      rw [unhide HB]
      exact ⟨rfl, .left (unhide HR) _⟩

/- Fixed -/
/- Short -/
set_option maxRecDepth 10000 in
set_option maxHeartbeats 1000000 in
theorem refShortR_any (r e : Nat) (L : ByteArray) (w : World) (hr : Rm w r L e) (hL : L.size ≤ 1000000) :
    Calls Tryz.prog 172 #[.pointer (some ⟨r, 0, none⟩)] w fun x w' => x = .returned (.int .u64 ((shortR L e).1 : Int)) ∧ ToldM w w' r (shortR L e).2.1 (shortR L e).2.2 := by
  have h0 := hr.cell0
  have h1 := hr.cell1
  have f0 := hr.free 0
  have f1 := hr.free 1
  have HR := hide hr
  clear hr
  unfold shortR
  by_cases he : e ≠ 0
  · rw [if_pos he]
    have hne : ((e : Int) == 0) = false := beq_eq_false_iff_ne.2 (by omega)
    have hne2 : ((e : Int) != 0) = true := bne_iff_ne.2 (by omega)
    clear he
    go_enter Tryz.func172, Tryz.ntmps172
    go_wp2
    go_ret
    exact ⟨rfl, .refl (unhide HR)⟩
  · obtain rfl : e = 0 := by omega
    rw [if_neg he]
    clear he
    have HS := hide (refScan_any L w (by unfold maxLen; omega))
    have hk := scan_le L
    generalize Pk.scan (bn L) = T at *
    obtain ⟨n, k, er⟩ := T
    have hk' : k ≤ L.size := hk
    clear hk
    go_enter Tryz.func172, Tryz.ntmps172
    go_wp2_with (go_at_call 203; refine (unhide HS).mono ?_; rintro x w' ⟨rfl, hw⟩; have hw := hw.symm; subst hw)
    go_ret
    exact ⟨rfl, .both (unhide HR) _ _⟩

/- Left, End -/
set_option maxRecDepth 10000 in
set_option maxHeartbeats 1000000 in
theorem refEnd_any (r e : Nat) (L : ByteArray) (w : World) (hr : Rm w r L e) :
    Calls Tryz.prog 174 #[.pointer (some ⟨r, 0, none⟩)] w fun x w' => x = .returned (.int .i64 (endR L e : Int)) ∧ w' = w := by
  have h0 := hr.cell0
  have h1 := hr.cell1
  clear hr
  unfold endR
  by_cases he : e = 0
  · subst he
    rw [if_neg (by simp)]
    by_cases hz : L.size = 0
    · rw [if_pos hz]
      have hemp : L.toList.isEmpty = true := by rw [ByteArray.toList_eq, List.isEmpty_iff, List.eq_nil_iff_length_eq_zero, Array.length_toList]; exact hz
      clear hz
      go_enter Tryz.func174, Tryz.ntmps174
      go_wp2
      go_ret
      exact ⟨rfl, rfl⟩
    · rw [if_neg hz]
      have hfull := full_of (s := L) (by omega)
      clear hz
      go_enter Tryz.func174, Tryz.ntmps174
      go_wp2
      go_ret
      exact ⟨rfl, rfl⟩
  · have hne : ((e : Int) == 0) = false := beq_eq_false_iff_ne.2 (by omega)
    have hne2 : ((e : Int) != 0) = true := bne_iff_ne.2 (by omega)
    rw [if_pos he]
    clear he
    go_enter Tryz.func174, Tryz.ntmps174
    go_wp2
    go_ret
    exact ⟨rfl, rfl⟩
end Go.Proofs.YtdelobaiicoogaaGreatDoor.L6

/- What the document's own reader answers of a text. -/
namespace Go.Proofs.YtdelobaiicoogaaGreatDoor.L6
open Go.ChangeShapes Go.WideShapes Go.ChangeAt Go.RowKit

set_option maxRecDepth 10000 in
set_option maxHeartbeats 4000000 in
theorem refText_in (r : Nat) (L : ByteArray) (most : Int) (w : World) (hr : Rm w r L 0) (hL : L.size ≤ 1000000) (hm : -9223372036854775808 ≤ most ∧ most ≤ 9223372036854775807) :
    Calls Tryz.prog 173 #[.pointer (some ⟨r, 0, none⟩), .int .i64 most] w fun x w' => x = .returned (.string (textOf L most).1) ∧ ToldM w w' r (L.extract (textOf L most).2.1 L.size) (textOf L most).2.2 := by
  have h0 := hr.cell0
  have h1 := hr.cell1
  have f0 := hr.free 0
  have f1 := hr.free 1
  have HR := hide hr
  clear hr
  have hS := refScan_any L w (by unfold maxLen; omega)
  rcases scan_cases L with ⟨n, k, hsc, hn, hk0, hk10, hks, hx1, hx2⟩ | ⟨er, hsc, hne0, he1, he2⟩
  · clear hx1 hx2
    rw [hsc] at hS
    have HS := hide hS
    clear hS
    by_cases hlong : most < 0 ∨ most < (n : Int)
    · rw [textOf_long hsc hlong]
      rw [show L.extract 0 L.size = L from ext0 L]
      clear hsc
      by_cases hneg : most < 0
      · clear hlong
        go_enter Tryz.func173, Tryz.ntmps173
        go_wp2_with (go_at_call 203; refine (unhide HS).mono ?_; rintro x w' ⟨rfl, hw⟩; have hw := hw.symm; subst hw)
        go_ret
        exact ⟨rfl, .err (unhide HR) 22⟩
      · have hlt : most < (n : Int) := by omega
        clear hlong
        go_enter Tryz.func173, Tryz.ntmps173
        go_wp2_with (go_at_call 203; refine (unhide HS).mono ?_; rintro x w' ⟨rfl, hw⟩; have hw := hw.symm; subst hw)
        go_ret
        exact ⟨rfl, .err (unhide HR) 22⟩
    · have hneg : ¬ most < 0 := by omega
      have hge : ¬ most < (n : Int) := by omega
      by_cases hfew : L.size - k < n
      · rw [textOf_short hsc hlong hfew]
        rw [show L.extract 0 L.size = L from ext0 L]
        clear hsc hlong
        go_enter Tryz.func173, Tryz.ntmps173
        go_wp2_with (go_at_call 203; refine (unhide HS).mono ?_; rintro x w' ⟨rfl, hw⟩; have hw := hw.symm; subst hw)
        go_ret
        exact ⟨rfl, .err (unhide HR) 20⟩
      · rw [textOf_ok hsc hlong hfew]
        clear hsc hlong
        have hsum : k + n ≤ L.size := by omega
        go_enter Tryz.func173, Tryz.ntmps173
        go_wp2_with (go_at_call 203; refine (unhide HS).mono ?_; rintro x w' ⟨rfl, hw⟩; have hw := hw.symm; subst hw)
        go_ret
        exact ⟨rfl, .left (unhide HR) _⟩
  · rw [hsc] at hS
    have HS := hide hS
    clear hS
    rw [textOf_bad most hsc hne0]
    rw [show L.extract 0 L.size = L from ext0 L]
    clear hsc
    have hne : ((er : Int) == 0) = false := beq_eq_false_iff_ne.2 (by omega)
    have hne2 : ((er : Int) != 0) = true := bne_iff_ne.2 (by omega)
    clear hne0
    go_enter Tryz.func173, Tryz.ntmps173
    go_wp2_with (go_at_call 203; refine (unhide HS).mono ?_; rintro x w' ⟨rfl, hw⟩; have hw := hw.symm; subst hw)
    go_ret
    exact ⟨rfl, .err (unhide HR) er⟩

set_option maxRecDepth 10000 in
set_option maxHeartbeats 1000000 in
theorem refTextR_any (r e : Nat) (L : ByteArray) (most : Int) (w : World) (hr : Rm w r L e) (hL : L.size ≤ 1000000) (hm : -9223372036854775808 ≤ most ∧ most ≤ 9223372036854775807) :
    Calls Tryz.prog 173 #[.pointer (some ⟨r, 0, none⟩), .int .i64 most] w fun x w' => x = .returned (.string (textR L e most).1) ∧ ToldM w w' r (textR L e most).2.1 (textR L e most).2.2 := by
  unfold textR
  by_cases he : e ≠ 0
  · rw [if_pos he]
    have h1 := hr.cell1
    have HR := hide hr
    clear hr
    have hne : ((e : Int) == 0) = false := beq_eq_false_iff_ne.2 (by omega)
    have hne2 : ((e : Int) != 0) = true := bne_iff_ne.2 (by omega)
    clear he
    go_enter Tryz.func173, Tryz.ntmps173
    go_wp2
    go_ret
    exact ⟨rfl, .refl (unhide HR)⟩
  · obtain rfl : e = 0 := by omega
    rw [if_neg he]
    exact refText_in r L most w hr hL hm
end Go.Proofs.YtdelobaiicoogaaGreatDoor.L6
