/- The plain mathematics of supers: their sectors, what opens, what is torn, which one is chosen. -/
import Derived.Test.YtdkgifjmahkiaaaDoorL4Both
import Derived.Test.YtdkgifjmahkiaaaDoorSm
namespace Go.Proofs.YtdkgifjmahkiaaaDoor
open Go.ChangeShapes Go.WideShapes Go.ChangeAt Go.RowKit
open L4

/-- its payload -/
def spay (r s g : Nat) : ByteArray := strOf (Pk.fixL r) ++ strOf (Pk.fixL s) ++ strOf (Pk.fixL g)
/-- THE DOCUMENT's: its sector, or the error -/
def swrapR (G R S : Int) : ByteArray × Nat := if MayB G R S then (strOf (Blk.sector 9 G.toNat (bn (spay R.toNat S.toNat G.toNat))), 0) else (⟨#[]⟩, 101)
def n1 (P : ByteArray) : Nat := Pk.fixN ((bn P).take 8)
def n2 (P : ByteArray) : Nat := Pk.fixN (((bn P).drop 8).take 8)
def n3 (P : ByteArray) : Nat := Pk.fixN (((bn P).drop 16).take 8)
/-- THE DOCUMENT's: a block is a super's -/
abbrev IsSup (K G : Int) (P : ByteArray) : Prop := K = 9 ∧ P.size = 24 ∧ ((n3 P : Nat) : Int) = G ∧ MayB G (n1 P : Nat) (n2 P : Nat)
/-- THE DOCUMENT's: the super of a block, and of a sector: Gen, Root, Sectors, the error -/
def sblkR (K G : Int) (P : ByteArray) : Int × Int × Int × Nat := if IsSup K G P then (G, ((n1 P : Nat) : Int), ((n2 P : Nat) : Int), 0) else (0, 0, 0, 101)
def sopenR (t : ByteArray) : Int × Int × Int × Nat := if (openR t).2.2.2 ≠ 0 then (0, 0, 0, (openR t).2.2.2) else sblkR (openR t).1 (openR t).2.1 (openR t).2.2.1
/-- THE DOCUMENT's: of two slots -/
def chooseR (z o : ByteArray) : Int × Int × Int × Nat :=
  if ((sopenR z).2.2.2 = 0 ∧ (sopenR z).1 % 2 = 0) ∧ (¬ ((sopenR o).2.2.2 = 0 ∧ (sopenR o).1 % 2 = 1) ∨ (sopenR o).1 < (sopenR z).1) then sopenR z
  else if (sopenR o).2.2.2 = 0 ∧ (sopenR o).1 % 2 = 1 then sopenR o else (0, 0, 0, 101)

theorem bn_spay (r s g : Nat) : bn (spay r s g) = Pk.fixL r ++ (Pk.fixL s ++ Pk.fixL g) := by
  unfold spay
  rw [bn_append, bn_append, bn_strOf _ (Pk.fixL_lt r), bn_strOf _ (Pk.fixL_lt s), bn_strOf _ (Pk.fixL_lt g), List.append_assoc]
theorem spay_size (r s g : Nat) : (spay r s g).size = 24 := by
  rw [← bn_length, bn_spay, List.length_append, List.length_append]
  rfl
theorem n1_spay (r s g : Nat) (h : r < 18446744073709551616) : n1 (spay r s g) = r := by
  unfold n1
  rw [bn_spay, List.take_append_of_le_length (by rw [Pk.fixL_length]; exact Nat.le_refl _), List.take_of_length_le (by rw [Pk.fixL_length]; exact Nat.le_refl _), Pk.fixN_fixL r h]
theorem n2_spay (r s g : Nat) (h : s < 18446744073709551616) : n2 (spay r s g) = s := by
  unfold n2
  rw [bn_spay, List.drop_append_of_le_length (by rw [Pk.fixL_length]; exact Nat.le_refl _), List.drop_of_length_le (by rw [Pk.fixL_length]; exact Nat.le_refl _), List.nil_append, List.take_append_of_le_length (by rw [Pk.fixL_length]; exact Nat.le_refl _), List.take_of_length_le (by rw [Pk.fixL_length]; exact Nat.le_refl _), Pk.fixN_fixL s h]
theorem n3_spay (r s g : Nat) (h : g < 18446744073709551616) : n3 (spay r s g) = g := by
  unfold n3
  have e : (Pk.fixL r ++ (Pk.fixL s ++ Pk.fixL g)).drop 16 = Pk.fixL g := rfl
  rw [bn_spay, e, List.take_of_length_le (by rw [Pk.fixL_length]; exact Nat.le_refl _), Pk.fixN_fixL g h]
theorem n1_lt (P : ByteArray) : n1 P < 18446744073709551616 := by
  have h := Pk.fixN_lt ((bn P).take 8) (fun b hb => bn_lt P b (List.mem_of_mem_take hb))
  refine Nat.lt_of_lt_of_le h (Nat.pow_le_pow_right (by decide) (show _ ≤ 8 by rw [List.length_take]; omega))
theorem n2_lt (P : ByteArray) : n2 P < 18446744073709551616 := by
  have h := Pk.fixN_lt (((bn P).drop 8).take 8) (fun b hb => bn_lt P b (List.mem_of_mem_drop (List.mem_of_mem_take hb)))
  refine Nat.lt_of_lt_of_le h (Nat.pow_le_pow_right (by decide) (show _ ≤ 8 by rw [List.length_take]; omega))
theorem n3_lt (P : ByteArray) : n3 P < 18446744073709551616 := by
  have h := Pk.fixN_lt (((bn P).drop 16).take 8) (fun b hb => bn_lt P b (List.mem_of_mem_drop (List.mem_of_mem_take hb)))
  refine Nat.lt_of_lt_of_le h (Nat.pow_le_pow_right (by decide) (show _ ≤ 8 by rw [List.length_take]; omega))
/-- a payload of 24 bytes is that of its numbers -/
theorem spay_of {P : ByteArray} (h : P.size = 24) : P = spay (n1 P) (n2 P) (n3 P) := by
  apply bn_inj
  have hl : (bn P).length = 24 := by rw [bn_length]; exact h
  have b := bn_lt P
  rw [bn_spay]
  unfold n1 n2 n3
  rw [Pk.fixL_fixN _ (by rw [List.length_take]; omega) (fun c hc => b c (List.mem_of_mem_take hc)), Pk.fixL_fixN _ (by rw [List.length_take, List.length_drop]; omega) (fun c hc => b c (List.mem_of_mem_drop (List.mem_of_mem_take hc))),
    Pk.fixL_fixN _ (by rw [List.length_take, List.length_drop]; omega) (fun c hc => b c (List.mem_of_mem_drop (List.mem_of_mem_take hc)))]
  have e3 : ((bn P).drop 16).take 8 = ((bn P).drop 8).drop 8 := by rw [List.take_of_length_le (by rw [List.length_drop]; omega), List.drop_drop]
  rw [e3, List.take_append_drop, List.take_append_drop]

theorem openR_nine (g : Nat) (P : ByteArray) (hg : g ≤ 1152921504606846976) (hp : P.size ≤ 1007) : openR (strOf (Blk.sector 9 g (bn P))) = (9, (g : Int), P, 0) := open_wrap (k := 9) (by decide) hg hp
theorem swrapR_ok {G R S : Int} (h : MayB G R S) : swrapR G R S = (strOf (Blk.sector 9 G.toNat (bn (spay R.toNat S.toNat G.toNat))), 0) := if_pos h
theorem swrapR_no {G R S : Int} (h : ¬ MayB G R S) : swrapR G R S = (⟨#[]⟩, 101) := if_neg h
theorem sblkR_ok {K G : Int} {P : ByteArray} (h : IsSup K G P) : sblkR K G P = (G, ((n1 P : Nat) : Int), ((n2 P : Nat) : Int), 0) := if_pos h
theorem sblkR_no {K G : Int} {P : ByteArray} (h : ¬ IsSup K G P) : sblkR K G P = (0, 0, 0, 101) := if_neg h
/-- THERE AND BACK -/
theorem sopen_swrap {G R S : Int} (h : MayB G R S) : sopenR (swrapR G R S).1 = (G, R, S, 0) := by
  rw [swrapR_ok h]
  obtain ⟨⟨h1, h2⟩, ⟨h3, h4⟩, h5⟩ := h
  obtain ⟨g, rfl⟩ := Int.eq_ofNat_of_zero_le h1
  obtain ⟨r, rfl⟩ := Int.eq_ofNat_of_zero_le (show 0 ≤ R by omega)
  obtain ⟨s, rfl⟩ := Int.eq_ofNat_of_zero_le (show 0 ≤ S by omega)
  show sopenR (strOf (Blk.sector 9 g (bn (spay r s g)))) = _
  unfold sopenR
  rw [openR_nine g _ (by omega) (by rw [spay_size]; decide), if_neg (by simp)]
  have e1 := n1_spay r s g (by omega)
  have e2 := n2_spay r s g (by omega)
  have e3 := n3_spay r s g (by omega)
  show sblkR 9 (g : Int) (spay r s g) = _
  rw [sblkR_ok ⟨rfl, spay_size _ _ _, by rw [e3], by rw [e1, e2]; exact ⟨⟨h1, h2⟩, ⟨h3, h4⟩, h5⟩⟩, e1, e2]
theorem swrap_sopen {t : ByteArray} (h : (sopenR t).2.2.2 = 0) : swrapR (sopenR t).1 (sopenR t).2.1 (sopenR t).2.2.1 = (t, 0) ∧ MayB (sopenR t).1 (sopenR t).2.1 (sopenR t).2.2.1 := by
  unfold sopenR at h ⊢
  by_cases he : (openR t).2.2.2 ≠ 0
  · rw [if_pos he] at h
    exact absurd h he
  · rw [if_neg he] at h ⊢
    rcases openR_cases t with ⟨hs, hf, hg⟩ | ⟨e, h1, h2⟩
    · have hw := wrap_open hs hf hg
      generalize openR t = T at *
      obtain ⟨K, G, P, E⟩ := T
      by_cases hi : IsSup K G P
      · show swrapR (sblkR K G P).1 (sblkR K G P).2.1 (sblkR K G P).2.2.1 = _ ∧ MayB (sblkR K G P).1 (sblkR K G P).2.1 (sblkR K G P).2.2.1
        rw [sblkR_ok hi]
        obtain ⟨rfl, h24, hg3, hm⟩ := hi
        refine ⟨?_, hm⟩
        show swrapR G ((n1 P : Nat) : Int) ((n2 P : Nat) : Int) = _
        rw [swrapR_ok hm]
        have hw' : wrapR 9 G P = (t, 0) := hw
        rw [wrapR_ok (by omega) (by omega)] at hw'
        rw [← hw', Int.toNat_natCast, Int.toNat_natCast, show (9 : Int).toNat = 9 from rfl]
        have e : G.toNat = n3 P := by rw [← hg3, Int.toNat_natCast]
        have e2 := spay_of h24
        conv => lhs; rw [show spay (n1 P) (n2 P) G.toNat = P by rw [e, ← e2]]
      · exfalso
        have h' : (sblkR K G P).2.2.2 = 0 := h
        rw [sblkR_no hi] at h'
        exact absurd h' (by decide)
    · exfalso
      rw [h2] at he
      have : e = 0 := by simpa using he
      omega
theorem sopenR_err {t : ByteArray} (h : (sopenR t).2.2.2 ≠ 0) : (sopenR t).1 = 0 ∧ (sopenR t).2.1 = 0 ∧ (sopenR t).2.2.1 = 0 := by
  unfold sopenR at h ⊢
  by_cases he : (openR t).2.2.2 ≠ 0
  · rw [if_pos he]
    exact ⟨rfl, rfl, rfl⟩
  · rw [if_neg he] at h ⊢
    unfold sblkR at h ⊢
    split
    · rename_i hi
      rw [if_pos hi] at h
      exact absurd rfl h
    · exact ⟨rfl, rfl, rfl⟩
theorem swrapR_size {G R S : Int} (h : MayB G R S) : (swrapR G R S).1.size = 1024 := by
  rw [swrapR_ok h]
  exact size_sector (by rw [spay_size]; decide)
theorem sopen_none : sopenR ⟨#[]⟩ = (0, 0, 0, 32) := by
  have e : openR ⟨#[]⟩ = (0, 0, ⟨#[]⟩, 32) := by unfold openR; rw [if_pos (by decide)]
  unfold sopenR
  rw [e]
  rfl

/- TORN -/
def rest (r s g : Nat) : List Nat := List.replicate 983 0 ++ Blk.le4 (Crc.sum (Blk.body 9 g (Pk.fixL r ++ (Pk.fixL s ++ Pk.fixL g))))
def sec (r s g : Nat) : List Nat := [67, 80, 9, 0, 24] ++ (Pk.fixL g ++ (Pk.fixL r ++ (Pk.fixL s ++ (Pk.fixL g ++ rest r s g))))
theorem sec_eq (r s g : Nat) : Blk.sector 9 g (bn (spay r s g)) = sec r s g := by
  rw [bn_spay]
  have e : (Pk.fixL r ++ (Pk.fixL s ++ Pk.fixL g)).length = 24 := rfl
  unfold Blk.sector sec rest
  conv => lhs; arg 1; unfold Blk.body Blk.head
  rw [e]
  simp only [List.append_assoc]
theorem sec_g (r s g : Nat) : ((sec r s g).drop 5).take 8 = Pk.fixL g := rfl
theorem sec_r (r s g : Nat) : ((sec r s g).drop 13).take 8 = Pk.fixL r := rfl
theorem sec_s (r s g : Nat) : ((sec r s g).drop 21).take 8 = Pk.fixL s := rfl
theorem sec_g' (r s g : Nat) : ((sec r s g).drop 29).take 8 = Pk.fixL g := rfl
theorem sec_13 (r s g : Nat) : (sec r s g).take 13 = [67, 80, 9, 0, 24] ++ Pk.fixL g := rfl
theorem fixL_inj {a b : Nat} (ha : a < 18446744073709551616) (hb : b < 18446744073709551616) (h : Pk.fixL a = Pk.fixL b) : a = b := by
  rw [← Pk.fixN_fixL a ha, ← Pk.fixN_fixL b hb, h]
theorem mid_of_take {a b : List Nat} {n i j : Nat} (h : a.take n = b.take n) (hij : i + j ≤ n) : (a.drop i).take j = (b.drop i).take j := by
  have e : ∀ l : List Nat, (l.drop i).take j = ((l.take n).drop i).take j := by
    intro l
    rw [List.drop_take, List.take_take, Nat.min_eq_left (by omega)]
  rw [e a, e b, h]
theorem mid_of_drop {a b : List Nat} {n i j : Nat} (h : a.drop n = b.drop n) (hi : n ≤ i) : (a.drop i).take j = (b.drop i).take j := by
  have e : ∀ l : List Nat, l.drop i = (l.drop n).drop (i - n) := by
    intro l
    rw [List.drop_drop]
    congr 1
    omega
  rw [e a, e b, h]
theorem sec_length (r s g : Nat) : (sec r s g).length = 1024 := by
  rw [← sec_eq]
  exact Blk.sector_length _ _ _ (by rw [bn_length, spay_size]; decide)
theorem torn_lists {r s g ra sa ga rb sb gb cut : Nat} (hr : r < 18446744073709551616) (hs : s < 18446744073709551616) (hg : g < 18446744073709551616) (hra : ra < 18446744073709551616) (hsa : sa < 18446744073709551616) (hga : ga < 18446744073709551616)
    (hgb : gb < 18446744073709551616) (hne : ga ≠ gb) (hc : cut ≤ 1024) (h : sec r s g = (sec ra sa ga).take cut ++ (sec rb sb gb).drop cut) : (r = ra ∧ s = sa ∧ g = ga) ∨ sec r s g = sec rb sb gb := by
  have hl : ((sec ra sa ga).take cut).length = cut := by rw [List.length_take, sec_length]; omega
  have ht : (sec r s g).take cut = (sec ra sa ga).take cut := by
    rw [h, List.take_append_of_le_length (by omega), List.take_take, Nat.min_self]
  have hd : (sec r s g).drop cut = (sec rb sb gb).drop cut := by
    rw [h, List.drop_append_of_le_length (by omega), List.drop_of_length_le (by omega), List.nil_append]
  by_cases h13 : cut ≤ 13
  · right
    have e : g = gb := by
      have := mid_of_drop (i := 29) (j := 8) hd (by omega)
      rw [sec_g', sec_g'] at this
      exact fixL_inj hg hgb this
    have e2 : (sec r s g).take 13 = (sec rb sb gb).take 13 := by rw [sec_13, sec_13, e]
    have e3 : (sec r s g).take cut = (sec rb sb gb).take cut := by
      have := congrArg (List.take cut) e2
      rw [List.take_take, List.take_take, Nat.min_eq_left h13] at this
      exact this
    rw [← List.take_append_drop cut (sec r s g), ← List.take_append_drop cut (sec rb sb gb), e3, hd]
  · have e : g = ga := by
      have := mid_of_take (i := 5) (j := 8) ht (by omega)
      rw [sec_g, sec_g] at this
      exact fixL_inj hg hga this
    by_cases h29 : cut ≤ 29
    · exfalso
      have := mid_of_drop (i := 29) (j := 8) hd (by omega)
      rw [sec_g', sec_g'] at this
      exact hne (e.symm.trans (fixL_inj hg hgb this))
    · left
      have e1 := mid_of_take (i := 13) (j := 8) ht (by omega)
      have e2 := mid_of_take (i := 21) (j := 8) ht (by omega)
      rw [sec_r, sec_r] at e1
      rw [sec_s, sec_s] at e2
      exact ⟨fixL_inj hr hra e1, fixL_inj hs hsa e2, e⟩
/-- A TORN SECTOR doesn't open, or is one of the two -/
theorem torn_out {Ga Ra Sa Gb Rb Sb : Int} (ha : MayB Ga Ra Sa) (hb : MayB Gb Rb Sb) (hne : Ga ≠ Gb) (cut : Nat) (hc : cut ≤ 1024) :
    let u := (swrapR Ga Ra Sa).1.extract 0 cut ++ (swrapR Gb Rb Sb).1.extract cut 1024
    (sopenR u).2.2.2 ≠ 0 ∨ (u = (swrapR Ga Ra Sa).1 ∧ sopenR u = (Ga, Ra, Sa, 0)) ∨ (u = (swrapR Gb Rb Sb).1 ∧ sopenR u = (Gb, Rb, Sb, 0)) := by
  intro u
  by_cases he : (sopenR u).2.2.2 ≠ 0
  · exact .inl he
  · right
    have he' : (sopenR u).2.2.2 = 0 := by omega
    obtain ⟨hw, hm⟩ := swrap_sopen he'
    have hback : u = (swrapR Ga Ra Sa).1 ∨ u = (swrapR Gb Rb Sb).1 := by
      have hu : bn u = (bn (swrapR Ga Ra Sa).1).take cut ++ (bn (swrapR Gb Rb Sb).1).drop cut := by
        show bn (_ ++ _) = _
        rw [bn_append, bn_extract, bn_extract, List.drop_zero, Nat.sub_zero]
        congr 1
        rw [List.take_of_length_le]
        rw [List.length_drop, bn_length, swrapR_size hb]
        exact Nat.le_refl _
      generalize sopenR u = T at *
      obtain ⟨G, R, S, E⟩ := T
      have hw' : swrapR G R S = (u, 0) := hw
      have hm' : MayB G R S := hm
      rw [swrapR_ok hm'] at hw'
      rw [swrapR_ok ha, swrapR_ok hb]
      rw [swrapR_ok ha, swrapR_ok hb] at hu
      obtain ⟨⟨h1, h2⟩, ⟨h3, h4⟩, h5⟩ := hm'
      obtain ⟨⟨a1, a2⟩, ⟨a3, a4⟩, a5⟩ := ha
      obtain ⟨⟨b1, b2⟩, ⟨b3, b4⟩, b5⟩ := hb
      have e : u = strOf (Blk.sector 9 G.toNat (bn (spay R.toNat S.toNat G.toNat))) := (Prod.mk.inj hw').1.symm
      have q : ∀ (g r s : Nat), bn (strOf (Blk.sector 9 g (bn (spay r s g)))) = sec r s g := by
        intro g r s
        rw [bn_sector (by decide) (by rw [spay_size]; decide), sec_eq]
      rw [e] at hu ⊢
      simp only [q] at hu
      rcases torn_lists (by omega) (by omega) (by omega) (by omega) (by omega) (by omega) (by omega) (by omega) hc hu with ⟨e1, e2, e3⟩ | h
      · left
        rw [e1, e2, e3]
      · right
        rw [sec_eq, sec_eq, h]
    rcases hback with h | h
    · exact .inl ⟨h, by rw [h]; exact sopen_swrap ha⟩
    · exact .inr ⟨h, by rw [h]; exact sopen_swrap hb⟩
end Go.Proofs.YtdkgifjmahkiaaaDoor
