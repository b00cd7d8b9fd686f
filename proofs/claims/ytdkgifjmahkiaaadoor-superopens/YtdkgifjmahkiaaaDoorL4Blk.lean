/- The plain mathematics of a block's sector: its bytes, which bytes are one, there and back, turned bits. No program is spoken of here. -/
import Derived.Test.YtdkgifjmahkiaaaDoorL4Math
import Derived.Test.YtdkgifjmahkiaaaDoorL4Pk
namespace Go.Proofs.YtdkgifjmahkiaaaDoor.L4.Blk

/-- a sum in four bytes, the lowest first -/
def le4 (c : Nat) : List Nat := [c % 256, c / 256 % 256, c / 65536 % 256, c / 16777216 % 256]
def num4 (a b c d : Nat) : Nat := a + b * 256 + c * 65536 + d * 16777216
theorem le4_num4 {a b c d : Nat} (ha : a < 256) (hb : b < 256) (hc : c < 256) (hd : d < 256) : le4 (num4 a b c d) = [a, b, c, d] := by
  simp only [le4, num4, List.cons.injEq, and_true]
  omega
theorem num4_le4 {c : Nat} (h : c < 4294967296) : num4 (c % 256) (c / 256 % 256) (c / 65536 % 256) (c / 16777216 % 256) = c := by
  unfold num4
  omega
theorem le4_lt (c : Nat) : ∀ b ∈ le4 c, b < 256 := by
  intro b hb
  simp only [le4, List.mem_cons, List.not_mem_nil, or_false] at hb
  rcases hb with rfl | rfl | rfl | rfl <;> exact Nat.mod_lt _ (by decide)
theorem num4_eq {a b c d x : Nat} (ha : a < 256) (hb : b < 256) (hc : c < 256) (hd : d < 256) (hx : x < 4294967296) : [a, b, c, d] = le4 x ↔ x = num4 a b c d := by
  constructor
  · intro h
    simp only [le4, List.cons.injEq, and_true] at h
    obtain ⟨rfl, rfl, rfl, rfl⟩ := h
    exact (num4_le4 hx).symm
  · rintro rfl
    exact (le4_num4 ha hb hc hd).symm

theorem xor_up (a x : Nat) (h : a < 256) : a ^^^ (x * 256) = x * 256 + a := by
  have := Crc.split_low (x * 256 + a) 8
  have e1 : (x * 256 + a) / 2 ^ 8 = x := by omega
  have e2 : (x * 256 + a) % 2 ^ 8 = a := by omega
  rw [e1, e2, Nat.xor_comm] at this
  exact this.symm
theorem msg_le4 (c : Nat) (h : c < 4294967296) : Crc.msg (le4 c) = c := by
  have e : Crc.msg (le4 c) = (c % 256) ^^^ (((c / 256 % 256) ^^^ (((c / 65536 % 256) ^^^ (((c / 16777216 % 256) ^^^ (0 * 256)) * 256)) * 256)) * 256) := rfl
  rw [e, xor_up _ _ (Nat.mod_lt _ (by decide)), xor_up _ _ (Nat.mod_lt _ (by decide)), xor_up _ _ (Nat.mod_lt _ (by decide)), xor_up _ _ (Nat.mod_lt _ (by decide))]
  omega

/-- bytes with their own sum behind have ever the same sum -/
theorem sum_fits (l : List Nat) (hl : ∀ b ∈ l, b < 256) : Crc.sum (l ++ le4 (Crc.sum l)) = Crc.shn 32 4294967295 ^^^ 4294967295 := by
  have hs := Crc.sum_lt l hl
  have e : Crc.sum (l ++ le4 (Crc.sum l)) = Crc.run (Crc.run 4294967295 l) (le4 (Crc.sum l)) ^^^ 4294967295 := by
    show Crc.run (0 ^^^ 4294967295) (l ++ le4 (Crc.sum l)) ^^^ 4294967295 = _
    rw [Crc.run_append]
    rfl
  rw [e, Crc.run_eq, msg_le4 _ hs]
  have e2 : Crc.sum l = Crc.run 4294967295 l ^^^ 4294967295 := rfl
  rw [e2, ← Nat.xor_assoc, Nat.xor_self, Nat.zero_xor]
  rfl

/-- THE DOCUMENT's: a block's sector -/
def head (k n g : Nat) : List Nat := [67, 80, k, n / 256, n % 256] ++ Pk.fixL g
def body (k g : Nat) (p : List Nat) : List Nat := head k p.length g ++ (p ++ List.replicate (1007 - p.length) 0)
def sector (k g : Nat) (p : List Nat) : List Nat := body k g p ++ le4 (Crc.sum (body k g p))
theorem body_length (k g : Nat) (p : List Nat) (hp : p.length ≤ 1007) : (body k g p).length = 1020 := by
  simp only [body, head, List.length_append, List.length_cons, List.length_nil, List.length_replicate, Pk.fixL_length]
  omega
theorem sector_length (k g : Nat) (p : List Nat) (hp : p.length ≤ 1007) : (sector k g p).length = 1024 := by
  simp only [sector, List.length_append, body_length k g p hp, le4, List.length_cons, List.length_nil]
theorem body_lt {k g : Nat} {p : List Nat} (hk : k < 256) (hn : p.length ≤ 1007) (hp : ∀ b ∈ p, b < 256) : ∀ b ∈ body k g p, b < 256 := by
  intro b hb
  simp only [body, head, List.mem_append, List.mem_cons, List.not_mem_nil, or_false, List.mem_replicate] at hb
  rcases hb with (h | h) | h | h
  · omega
  · exact Pk.fixL_lt g b h
  · exact hp b h
  · omega
theorem sector_lt {k g : Nat} {p : List Nat} (hk : k < 256) (hn : p.length ≤ 1007) (hp : ∀ b ∈ p, b < 256) : ∀ b ∈ sector k g p, b < 256 := by
  intro b hb
  rcases List.mem_append.1 hb with h | h
  · exact body_lt hk hn hp b h
  · exact le4_lt _ b h

/-- what is asked of a sector -/
def lenOf (l : List Nat) : Nat := l.getD 3 0 * 256 + l.getD 4 0
def genOf (l : List Nat) : Nat := Pk.fixN ((l.drop 5).take 8)
def Fits (l : List Nat) : Prop := l.drop 1020 = le4 (Crc.sum (l.take 1020))
def Good (l : List Nat) : Prop := l.take 2 = [67, 80] ∧ lenOf l ≤ 1007 ∧ genOf l ≤ 1152921504606846976 ∧ ∀ x ∈ (l.take 1020).drop (13 + lenOf l), x = 0
def payOf (l : List Nat) : List Nat := (l.drop 13).take (lenOf l)

theorem take_body (k g : Nat) (p : List Nat) (hp : p.length ≤ 1007) : (sector k g p).take 1020 = body k g p := by
  unfold sector
  rw [List.take_append_of_le_length (by rw [body_length k g p hp]; exact Nat.le_refl _), List.take_of_length_le (by rw [body_length k g p hp]; exact Nat.le_refl _)]
theorem drop_body (k g : Nat) (p : List Nat) (hp : p.length ≤ 1007) : (sector k g p).drop 1020 = le4 (Crc.sum (body k g p)) := by
  unfold sector
  rw [List.drop_append_of_le_length (by rw [body_length k g p hp]; exact Nat.le_refl _), List.drop_of_length_le (by rw [body_length k g p hp]; exact Nat.le_refl _)]
  rfl
theorem fits_sector (k g : Nat) (p : List Nat) (hp : p.length ≤ 1007) : Fits (sector k g p) := by
  unfold Fits
  rw [take_body k g p hp, drop_body k g p hp]
theorem lenOf_sector (k g : Nat) (p : List Nat) : lenOf (sector k g p) = p.length := by
  show p.length / 256 * 256 + p.length % 256 = _
  omega
theorem genOf_sector (k g : Nat) (p : List Nat) (hg : g < 18446744073709551616) : genOf (sector k g p) = g := by
  have e : ((sector k g p).drop 5).take 8 = Pk.fixL g := rfl
  unfold genOf
  rw [e, Pk.fixN_fixL g hg]
theorem kind_sector (k g : Nat) (p : List Nat) : (sector k g p).getD 2 0 = k := rfl
theorem rest_sector (k g : Nat) (p : List Nat) : (sector k g p).drop 13 = p ++ List.replicate (1007 - p.length) 0 ++ le4 (Crc.sum (body k g p)) := rfl
theorem payOf_sector (k g : Nat) (p : List Nat) : payOf (sector k g p) = p := by
  unfold payOf
  rw [lenOf_sector, rest_sector, List.append_assoc, List.take_append_of_le_length (Nat.le_refl _), List.take_of_length_le (Nat.le_refl _)]
theorem good_sector (k g : Nat) (p : List Nat) (hp : p.length ≤ 1007) (hg : g ≤ 1152921504606846976) : Good (sector k g p) := by
  refine ⟨rfl, by rw [lenOf_sector]; exact hp, by rw [genOf_sector k g p (by omega)]; exact hg, ?_⟩
  intro x hx
  rw [lenOf_sector, take_body k g p hp, ← List.drop_drop] at hx
  have e : (body k g p).drop 13 = p ++ List.replicate (1007 - p.length) 0 := rfl
  rw [e, List.drop_append_of_le_length (Nat.le_refl _), List.drop_of_length_le (Nat.le_refl _), List.nil_append] at hx
  exact (List.mem_replicate.1 hx).2

theorem five (l : List Nat) (h : 5 ≤ l.length) : ∃ a b c d e r, l = a :: b :: c :: d :: e :: r := by
  match l, h with
  | a :: b :: c :: d :: e :: r, _ => exact ⟨a, b, c, d, e, r, rfl⟩
/-- what is a block's sector is that block's -/
theorem sector_of {l : List Nat} (hlen : l.length = 1024) (hl : ∀ b ∈ l, b < 256) (hf : Fits l) (hg : Good l) : l = sector (l.getD 2 0) (genOf l) (payOf l) ∧ (payOf l).length = lenOf l := by
  obtain ⟨h2, hn, _, hz⟩ := hg
  obtain ⟨a, b, k, x, y, r, rfl⟩ := five l (by omega)
  have hr : r.length = 1019 := by simpa using hlen
  have hx : x < 256 := hl x (by simp)
  have hy : y < 256 := hl y (by simp)
  obtain ⟨rfl, rfl⟩ : a = 67 ∧ b = 80 := by simpa using h2
  have en : lenOf (67 :: 80 :: k :: x :: y :: r) = x * 256 + y := rfl
  have eg : genOf (67 :: 80 :: k :: x :: y :: r) = Pk.fixN (r.take 8) := rfl
  have ep : payOf (67 :: 80 :: k :: x :: y :: r) = (r.drop 8).take (x * 256 + y) := rfl
  have ek : (67 :: 80 :: k :: x :: y :: r).getD 2 0 = k := rfl
  have e8 : Pk.fixL (Pk.fixN (r.take 8)) = r.take 8 := Pk.fixL_fixN _ (by rw [List.length_take]; omega) (fun c hc => hl c (by have := List.mem_of_mem_take hc; simp [this]))
  rw [en] at hn hz
  have hpl : ((r.drop 8).take (x * 256 + y)).length = x * 256 + y := by rw [List.length_take, List.length_drop]; omega
  have hb : (67 :: 80 :: k :: x :: y :: r).take 1020 = body k (Pk.fixN (r.take 8)) ((r.drop 8).take (x * 256 + y)) := by
    have e1 : (67 :: 80 :: k :: x :: y :: r).take 1020 = [67, 80, k, x, y] ++ r.take 1015 := rfl
    have e2 : r.take 1015 = r.take 8 ++ ((r.drop 8).take (x * 256 + y) ++ ((r.drop 8).drop (x * 256 + y)).take (1007 - (x * 256 + y))) := by
      have f1 : r.take 1015 = r.take 8 ++ (r.drop 8).take 1007 := by
        rw [show (1015 : Nat) = 8 + 1007 from rfl, List.take_add]
      have f2 : (r.drop 8).take 1007 = (r.drop 8).take (x * 256 + y) ++ ((r.drop 8).drop (x * 256 + y)).take (1007 - (x * 256 + y)) := by
        have : (1007 : Nat) = (x * 256 + y) + (1007 - (x * 256 + y)) := by omega
        rw [this, List.take_add, show (x * 256 + y) + (1007 - (x * 256 + y)) - (x * 256 + y) = 1007 - (x * 256 + y) by omega]
      rw [f1, f2]
    have e3 : ((r.drop 8).drop (x * 256 + y)).take (1007 - (x * 256 + y)) = List.replicate (1007 - (x * 256 + y)) 0 := by
      refine List.eq_replicate_iff.2 ⟨by rw [List.length_take, List.length_drop, List.length_drop]; omega, ?_⟩
      intro b hb
      refine hz b ?_
      have g1 : ((67 :: 80 :: k :: x :: y :: r).take 1020).drop (13 + (x * 256 + y)) = ((r.take 1015).drop 8).drop (x * 256 + y) := by
        rw [← List.drop_drop]
        rfl
      rw [g1, List.drop_take, List.drop_take, show 1015 - 8 - (x * 256 + y) = 1007 - (x * 256 + y) by omega]
      exact hb
    unfold body head
    rw [hpl, e1, e2, e3, e8, show (x * 256 + y) / 256 = x by omega, show (x * 256 + y) % 256 = y by omega]
    rfl
  refine ⟨?_, by rw [ep, en]; exact hpl⟩
  rw [ek, eg, ep]
  unfold sector
  unfold Fits at hf
  rw [hb] at hf
  rw [← hf, ← hb, List.take_append_drop]

/-- TURNED BITS: the sum doesn't fit -/
theorem turned_out {l l' : List Nat} (hlen : l.length = 1024) (hlen' : l'.length = 1024) (hl : ∀ b ∈ l, b < 256) (hl' : ∀ b ∈ l', b < 256) (hf : Fits l) (m at' : Nat) (hm : m < 4294967296) (h0 : m ≠ 0) (hat : at' ≤ 8192)
    (h : Crc.msg l' = Crc.msg l ^^^ (m * 2 ^ at')) : ¬ Fits l' := by
  intro hf'
  have e : ∀ q : List Nat, (∀ b ∈ q, b < 256) → Fits q → Crc.sum q = Crc.shn 32 4294967295 ^^^ 4294967295 := by
    intro q hq hfq
    have := sum_fits (q.take 1020) (fun b hb => hq b (List.mem_of_mem_take hb))
    unfold Fits at hfq
    rw [← hfq, List.take_append_drop] at this
    exact this
  exact Crc.sum_turned (l := l) (l' := l') (by rw [hlen, hlen']) m at' hm h0 (by rw [hlen]; exact hat) h ((e l' hl' hf').trans (e l hl hf).symm)

/-- zeros are no block -/
theorem z0 : Crc.shn 1020 4294967295 = 1265583391 := by decide +kernel
theorem z1 : Crc.shn 1020 1265583391 = 3929728358 := by decide +kernel
theorem z2 : Crc.shn 1020 3929728358 = 1269030502 := by decide +kernel
theorem z3 : Crc.shn 1020 1269030502 = 3830750836 := by decide +kernel
theorem z4 : Crc.shn 1020 3830750836 = 3456249395 := by decide +kernel
theorem z5 : Crc.shn 1020 3456249395 = 1218594573 := by decide +kernel
theorem z6 : Crc.shn 1020 1218594573 = 959913629 := by decide +kernel
theorem z7 : Crc.shn 1020 959913629 = 1237201437 := by decide +kernel
theorem shn_zeros : Crc.shn 8160 4294967295 = 1237201437 := by
  rw [show (8160 : Nat) = 1020 + (1020 + (1020 + (1020 + (1020 + (1020 + (1020 + 1020)))))) from rfl, Crc.shn_add, z0, Crc.shn_add, z1, Crc.shn_add, z2, Crc.shn_add, z3, Crc.shn_add, z4, Crc.shn_add, z5, Crc.shn_add, z6, z7]
theorem msg_zeros : ∀ n, Crc.msg (List.replicate n 0) = 0
  | 0 => rfl
  | n + 1 => by
    show 0 ^^^ (Crc.msg (List.replicate n 0) * 256) = 0
    rw [msg_zeros n]
    rfl
theorem zeros_out : ¬ Fits (List.replicate 1024 0) := by
  unfold Fits
  have e1 : (List.replicate 1024 0).drop 1020 = [0, 0, 0, 0] := by rw [List.drop_replicate]; rfl
  have e2 : (List.replicate 1024 0).take 1020 = List.replicate 1020 0 := by rw [List.take_replicate]; rfl
  rw [e1, e2]
  intro h
  have h1 := (num4_eq (a := 0) (b := 0) (c := 0) (d := 0) (by decide) (by decide) (by decide) (by decide) (Crc.sum_lt (List.replicate 1020 0) (fun b hb => by rw [(List.mem_replicate.1 hb).2]; decide))).1 h
  have h2 : ∀ l, Crc.sum l = Crc.run 4294967295 l ^^^ 4294967295 := fun l => rfl
  rw [h2, Crc.run_eq, msg_zeros, List.length_replicate, show 8 * 1020 = 8160 from rfl, Nat.xor_zero, shn_zeros] at h1
  revert h1
  decide
end Go.Proofs.YtdkgifjmahkiaaaDoor.L4.Blk
