/- What the document's Open does: the document's block, or the error, as one function. -/
import Derived.Test.YtdkgifjmahkiaaaDoorL4Refopena
namespace Go.Proofs.YtdkgifjmahkiaaaDoor.L4
open Go.ChangeShapes Go.WideShapes Go.ChangeAt Go.RowKit

theorem at_of (S : ByteArray) (h : S.size = 1024) (i : Nat) (hi : i < 1020) : (bn (S.extract 0 1020)).getD i 0 = (S[i]'(by omega)).toNat := by
  rw [bn_front, List.getD_eq_getElem?_getD, List.getElem?_take_of_lt hi, bn_at S i (by omega)]
  rfl
theorem gen_of (S : ByteArray) : Blk.genOf (bn (S.extract 0 1020)) = Pk.fixN ((bn (S.extract 5 13)).take 8) := by
  unfold Blk.genOf
  rw [bn_front, bn_extract, List.drop_take, List.take_take, List.take_take]
  rfl
theorem two_of (S : ByteArray) : (bn (S.extract 0 1020)).take 2 = [67, 80] ↔ S.extract 0 2 = ⟨#[67, 80]⟩ := by
  have e : (bn (S.extract 0 1020)).take 2 = bn (S.extract 0 2) := by rw [bn_front, bn_front, List.take_take]; rfl
  rw [e]
  constructor
  · intro hh
    exact bn_inj hh
  · intro hh
    rw [hh]
    rfl
theorem pay_of (S : ByteArray) (n : Nat) (hn : n ≤ 1007) : (S.extract 0 1020).extract 13 (13 + n) = S.extract 13 (13 + n) := by
  apply bn_inj
  rw [bn_extract, bn_front, bn_extract, List.drop_take, List.take_take, Nat.min_eq_left (by omega)]
theorem drop_of (S : ByteArray) (h : S.size = 1024) (m x : Nat) : x ∈ (bn (S.extract 0 1020)).drop m ↔ ∃ j, ∃ hj : j < S.size, m ≤ j ∧ j < 1020 ∧ S[j].toNat = x := by
  have hl : (bn (S.extract 0 1020)).length = 1020 := by rw [bn_length, ByteArray.size_extract]; omega
  constructor
  · intro hx
    obtain ⟨i, hi, rfl⟩ := List.getElem_of_mem hx
    rw [List.length_drop, hl] at hi
    refine ⟨m + i, by omega, by omega, by omega, ?_⟩
    rw [List.getElem_drop, ← at_of S h (m + i) (by omega), List.getD_eq_getElem?_getD, List.getElem?_eq_getElem (by omega)]
    rfl
  · rintro ⟨j, hj, h1, h2, rfl⟩
    rw [← at_of S h j h2, List.getD_eq_getElem?_getD, List.getElem?_eq_getElem (by omega)]
    refine List.mem_of_getElem? (i := j - m) ?_
    rw [List.getElem?_drop, show m + (j - m) = j by omega, List.getElem?_eq_getElem (by omega)]
    rfl

theorem ropen_any (S : ByteArray) (w : World) :
    Calls Tryd.prog 26 #[.string S] w fun e w' => e = .returned (opened (openR S)) ∧ Below w.heap.size w w' := by
  unfold openR
  by_cases h : S.size = 1024
  · rw [if_neg (fun hh => hh h)]
    have b : ∀ i (hi : i < S.size), S[i].toNat < 256 := fun i hi => S[i].toNat_lt
    have hd : (bn S).drop 1020 = [(S[1020]'(by omega)).toNat, (S[1021]'(by omega)).toNat, (S[1022]'(by omega)).toNat, (S[1023]'(by omega)).toNat] := by
      apply List.ext_getElem?
      intro i
      rw [List.getElem?_drop]
      by_cases hi : i < 4
      · rw [bn_at S (1020 + i) (by omega)]
        have e : i = 0 ∨ i = 1 ∨ i = 2 ∨ i = 3 := by omega
        rcases e with rfl | rfl | rfl | rfl <;> rfl
      · rw [List.getElem?_eq_none (by rw [bn_length]; omega), List.getElem?_eq_none (by simp; omega)]
    have hcl : Crc.sum ((bn S).take 1020) < 4294967296 := Crc.sum_lt _ (fun x hx => bn_lt S x (List.mem_of_mem_take hx))
    have hiff := Blk.num4_eq (b 1020 (by omega)) (b 1021 (by omega)) (b 1022 (by omega)) (b 1023 (by omega)) hcl
    by_cases hf : (bn S).drop 1020 = Blk.le4 (Crc.sum ((bn S).take 1020))
    · rw [if_neg (fun hh => hh hf)]
      rw [hd] at hf
      have hc := hiff.1 hf
      rw [← bn_front] at hc
      have hlen : Blk.lenOf (bn (S.extract 0 1020)) = (S[3]'(by omega)).toNat * 256 + (S[4]'(by omega)).toNat := by
        unfold Blk.lenOf
        rw [at_of S h 3 (by omega), at_of S h 4 (by omega)]
      have hk : (bn (S.extract 0 1020)).getD 2 0 = (S[2]'(by omega)).toNat := at_of S h 2 (by omega)
      have hge := gen_of S
      unfold blockR
      by_cases hp : S.extract 0 2 = ⟨#[67, 80]⟩
      · have hp' := (two_of S).2 hp
        by_cases hn : Blk.lenOf (bn (S.extract 0 1020)) ≤ 1007
        · by_cases hg : Blk.genOf (bn (S.extract 0 1020)) ≤ 1152921504606846976
          · refine ropen_loop S w _ _ _ _ _ _ (Blk.lenOf (bn (S.extract 0 1020))) (Blk.genOf (bn (S.extract 0 1020))) h rfl rfl rfl rfl (b _ _) (b _ _) (b _ _) (b _ _) hc rfl rfl (b _ _) (b _ _) hlen.symm hge.symm _ (b 2 (by omega)) _ rfl hp hn hg ?_ ?_
            · intro j hj h1 h2 h3
              rw [if_neg]
              intro hh
              have := hh.2.2.2 _ ((drop_of S h _ _).2 ⟨j, hj, h1, h2, rfl⟩)
              omega
            · intro hz
              rw [if_pos ⟨hp', hn, hg, fun x hx => by
                obtain ⟨j, hj, h1, h2, rfl⟩ := (drop_of S h _ _).1 hx
                exact hz j hj h1 h2⟩, hk, pay_of S _ hn]
          · rw [if_neg (fun hh => hg hh.2.2.1)]
            exact ropen_gen S w _ _ _ _ _ _ _ _ h rfl rfl rfl rfl (b _ _) (b _ _) (b _ _) (b _ _) hc rfl rfl (b _ _) (b _ _) hlen.symm hge.symm hp hn (Nat.lt_of_not_le hg)
        · rw [if_neg (fun hh => hn hh.2.1)]
          exact ropen_long S w _ _ _ _ _ _ _ _ h rfl rfl rfl rfl (b _ _) (b _ _) (b _ _) (b _ _) hc rfl rfl (b _ _) (b _ _) hlen.symm hge.symm hp (Nat.lt_of_not_le hn)
      · rw [if_neg (fun hh => hp ((two_of S).1 hh.1))]
        exact ropen_prefix S w _ _ _ _ _ _ _ _ h rfl rfl rfl rfl (b _ _) (b _ _) (b _ _) (b _ _) hc rfl rfl (b _ _) (b _ _) hlen.symm hge.symm _ rfl hp
    · rw [if_pos hf]
      rw [hd] at hf
      refine ropen_sum S w _ _ _ _ h rfl rfl rfl rfl (b _ _) (b _ _) (b _ _) (b _ _) _ rfl (fun hh => hf (hiff.2 ?_))
      rw [← bn_front]
      exact hh
  · rw [if_pos h]
    exact ropen_size S w h
end Go.Proofs.YtdkgifjmahkiaaaDoor.L4
