/- Wrap and Open beside one another: there and back, turned bits, zeros. Plain functions alone. -/
import Derived.Test.YtdkgifjmahkiaaaDoorL4At
namespace Go.Proofs.YtdkgifjmahkiaaaDoor.L4
open Go.ChangeShapes Go.WideShapes Go.ChangeAt Go.RowKit

theorem take_getD (l : List Nat) (i : Nat) (hi : i < 1020) : (l.take 1020).getD i 0 = l.getD i 0 := by
  rw [List.getD_eq_getElem?_getD, List.getD_eq_getElem?_getD, List.getElem?_take_of_lt hi]
theorem lenOf_take (l : List Nat) : Blk.lenOf (l.take 1020) = Blk.lenOf l := by
  unfold Blk.lenOf
  rw [take_getD l 3 (by decide), take_getD l 4 (by decide)]
theorem genOf_take (l : List Nat) : Blk.genOf (l.take 1020) = Blk.genOf l := by
  unfold Blk.genOf
  rw [List.drop_take, List.take_take]
  rfl
theorem bn_fst (s : ByteArray) (j : Nat) : bn (s.extract 0 j) = (bn s).take j := by rw [bn_extract, List.drop_zero, Nat.sub_zero]
theorem good_take (l : List Nat) : ((l.take 1020).take 2 = [67, 80] ∧ Blk.lenOf (l.take 1020) ≤ 1007 ∧ Blk.genOf (l.take 1020) ≤ 1152921504606846976 ∧ ∀ x ∈ (l.take 1020).drop (13 + Blk.lenOf (l.take 1020)), x = 0) ↔ Blk.Good l := by
  unfold Blk.Good
  rw [lenOf_take, genOf_take, List.take_take]
  exact Iff.rfl

theorem bn_pay (S : ByteArray) : bn (strOf (Blk.payOf (bn S))) = Blk.payOf (bn S) :=
  bn_strOf _ (fun b hb => bn_lt S b (List.mem_of_mem_drop (List.mem_of_mem_take hb)))
theorem openR_ok {S : ByteArray} (h : S.size = 1024) (hf : Blk.Fits (bn S)) (hg : Blk.Good (bn S)) : openR S = ((((bn S).getD 2 0 : Nat) : Int), ((Blk.genOf (bn S) : Nat) : Int), strOf (Blk.payOf (bn S)), 0) := by
  unfold openR
  rw [if_neg (fun hh => hh h), if_neg (fun hh => hh hf)]
  unfold blockR
  rw [bn_fst, if_pos ((good_take _).2 hg), take_getD _ 2 (by decide), genOf_take, lenOf_take]
  refine Prod.ext rfl (Prod.ext rfl (Prod.ext ?_ rfl))
  apply bn_inj
  show bn ((S.extract 0 1020).extract 13 (13 + Blk.lenOf (bn S))) = bn (strOf (Blk.payOf (bn S)))
  have hn := hg.2.1
  rw [bn_extract, bn_fst, bn_pay, List.drop_take, List.take_take, Nat.min_eq_left (by omega), Nat.add_sub_cancel_left]
  rfl
theorem openR_cases (S : ByteArray) : (S.size = 1024 ∧ Blk.Fits (bn S) ∧ Blk.Good (bn S)) ∨ ∃ e : Nat, (e = 32 ∨ e = 40 ∨ e = 21) ∧ openR S = (0, 0, ⟨#[]⟩, e) := by
  unfold openR
  by_cases h : S.size = 1024
  · rw [if_neg (fun hh => hh h)]
    by_cases hf : (bn S).drop 1020 = Blk.le4 (Crc.sum ((bn S).take 1020))
    · rw [if_neg (fun hh => hh hf)]
      by_cases hg : Blk.Good (bn S)
      · exact .inl ⟨h, hf, hg⟩
      · refine .inr ⟨21, by simp, ?_⟩
        unfold blockR
        rw [bn_fst, if_neg (fun hh => hg ((good_take _).1 hh))]
    · rw [if_pos hf]
      exact .inr ⟨40, by simp, rfl⟩
  · rw [if_pos h]
    exact .inr ⟨32, by simp, rfl⟩
theorem openR_sum {S : ByteArray} (h : S.size = 1024) (hf : ¬ Blk.Fits (bn S)) : openR S = (0, 0, ⟨#[]⟩, 40) := by
  unfold openR
  rw [if_neg (fun hh => hh h)]
  exact if_pos hf

theorem wrapR_cases (K G : Int) (P : ByteArray) : (∃ k g : Nat, K = (k : Int) ∧ G = (g : Int) ∧ k ≤ 255 ∧ g ≤ 1152921504606846976 ∧ P.size ≤ 1007 ∧ wrapR K G P = (strOf (Blk.sector k g (bn P)), 0)) ∨ ∃ e : Nat, (e = 1 ∨ e = 61) ∧ wrapR K G P = (⟨#[]⟩, e) := by
  by_cases h : K < 0 ∨ 255 < K ∨ G < 0 ∨ 1152921504606846976 < G
  · exact .inr ⟨1, by simp, wrapR_arg h⟩
  · by_cases hp : 1007 < P.size
    · exact .inr ⟨61, by simp, wrapR_big h hp⟩
    · obtain ⟨k, rfl⟩ := Int.eq_ofNat_of_zero_le (show 0 ≤ K by omega)
      obtain ⟨g, rfl⟩ := Int.eq_ofNat_of_zero_le (show 0 ≤ G by omega)
      exact .inl ⟨k, g, rfl, rfl, by omega, by omega, by omega, wrapR_ok h hp⟩

theorem bn_sector {k g : Nat} {P : ByteArray} (hk : k ≤ 255) (hp : P.size ≤ 1007) : bn (strOf (Blk.sector k g (bn P))) = Blk.sector k g (bn P) :=
  bn_strOf _ (Blk.sector_lt (by omega) (by rw [bn_length]; exact hp) (bn_lt P))
theorem size_sector {k g : Nat} {P : ByteArray} (hp : P.size ≤ 1007) : (strOf (Blk.sector k g (bn P))).size = 1024 := by
  rw [strOf_size, Blk.sector_length _ _ _ (by rw [bn_length]; exact hp)]

/-- what is wrapped opens, and is that block -/
theorem open_wrap {k g : Nat} {P : ByteArray} (hk : k ≤ 255) (hg : g ≤ 1152921504606846976) (hp : P.size ≤ 1007) : openR (strOf (Blk.sector k g (bn P))) = ((k : Int), (g : Int), P, 0) := by
  have hp' : (bn P).length ≤ 1007 := by rw [bn_length]; exact hp
  have hf := Blk.fits_sector k g (bn P) hp'
  have hgd := Blk.good_sector k g (bn P) hp' hg
  rw [openR_ok (size_sector hp) (by rw [bn_sector hk hp]; exact hf) (by rw [bn_sector hk hp]; exact hgd), bn_sector hk hp, Blk.kind_sector, Blk.genOf_sector k g _ (by omega), Blk.payOf_sector, strOf_bn]
/-- what opens is wrapped so -/
theorem wrap_open {S : ByteArray} (h : S.size = 1024) (hf : Blk.Fits (bn S)) (hg : Blk.Good (bn S)) : wrapR (openR S).1 (openR S).2.1 (openR S).2.2.1 = (S, 0) := by
  obtain ⟨h1, h2⟩ := Blk.sector_of (by rw [bn_length]; exact h) (bn_lt S) hf hg
  have hlt := getD_lt (bn_lt S) 2
  have hpl : (strOf (Blk.payOf (bn S))).size ≤ 1007 := by rw [strOf_size, h2]; exact hg.2.1
  rw [openR_ok h hf hg]
  have hgg := hg.2.2.1
  show wrapR (((bn S).getD 2 0 : Nat) : Int) ((Blk.genOf (bn S) : Nat) : Int) (strOf (Blk.payOf (bn S))) = _
  rw [wrapR_ok (by omega) (by omega), Int.toNat_natCast, Int.toNat_natCast, bn_pay, ← h1, strOf_bn]

theorem zeros_out : openR (zeros 1024) = (0, 0, ⟨#[]⟩, 40) := by
  refine openR_sum (by unfold zeros; rw [strOf_size, List.length_replicate]) ?_
  have e : bn (zeros 1024) = List.replicate 1024 0 := bn_zeros 1024
  rw [e]
  exact Blk.zeros_out
/-- turned bits -/
theorem turned_out {k g : Nat} {P S' : ByteArray} (hk : k ≤ 255) (hp : P.size ≤ 1007) (hs : S'.size = 1024) (m at' : Nat) (hm : m < 4294967296) (h0 : m ≠ 0) (hat : at' ≤ 8192)
    (h : Crc.msg (bn S') = Crc.msg (Blk.sector k g (bn P)) ^^^ (m * 2 ^ at')) : openR S' = (0, 0, ⟨#[]⟩, 40) := by
  have hp' : (bn P).length ≤ 1007 := by rw [bn_length]; exact hp
  exact openR_sum hs (Blk.turned_out (Blk.sector_length k g _ hp') (by rw [bn_length]; exact hs) (Blk.sector_lt (by omega) hp' (bn_lt P)) (bn_lt S') (Blk.fits_sector k g _ hp') m at' hm h0 hat h)
end Go.Proofs.YtdkgifjmahkiaaaDoor.L4
