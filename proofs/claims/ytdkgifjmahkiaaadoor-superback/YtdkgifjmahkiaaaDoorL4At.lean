/- A reader of a text at a place, beside the result's variable: what blockOf does step by step. -/
import Derived.Test.YtdkgifjmahkiaaaDoorL4Box
import Derived.Test.YtdkgifjmahkiaaaDoorL4Reader
import Derived.Test.YtdkgifjmahkiaaaDoorL4Clone
import Derived.Lib.Strings
namespace Go.Proofs.YtdkgifjmahkiaaaDoor.L4
open Go.ChangeShapes Go.WideShapes Go.ChangeAt Go.RowKit

theorem bn_extract (s : ByteArray) (a b : Nat) : bn (s.extract a b) = ((bn s).drop a).take (b - a) := by
  unfold bn
  rw [Lib.extract_data, List.map_take, List.map_drop]
theorem bn_from (s : ByteArray) (k : Nat) : bn (s.extract k s.size) = (bn s).drop k := by
  rw [bn_extract, List.take_of_length_le (by rw [List.length_drop, bn_length]; exact Nat.le_refl _)]
theorem size_from (s : ByteArray) (k : Nat) : (s.extract k s.size).size = s.size - k := by rw [← bn_length, bn_from, List.length_drop, bn_length]
theorem from_from (s : ByteArray) (k j : Nat) : (s.extract k s.size).extract j (s.extract k s.size).size = s.extract (k + j) s.size := by
  apply bn_inj
  rw [bn_from, bn_from, bn_from, List.drop_drop]

theorem getD_lt {l : List Nat} (hl : ∀ b ∈ l, b < 256) (k : Nat) : l.getD k 0 < 256 := by
  rw [List.getD_eq_getElem?_getD]
  by_cases h : k < l.length
  · rw [List.getElem?_eq_getElem h]; exact hl _ (List.getElem_mem h)
  · rw [List.getElem?_eq_none (by omega)]; decide
theorem byteR_at (U : ByteArray) (k : Nat) (hk : k < U.size) : byteR (U.extract k U.size) 0 = ((bn U).getD k 0, U.extract (k + 1) U.size, 0) := by
  unfold byteR
  rw [if_neg (by simp), if_neg (by rw [size_from]; omega), from_from, bn_from]
  simp [List.getD_eq_getElem?_getD, List.getElem?_drop]
theorem fixedR_at (U : ByteArray) (k : Nat) (hk : k + 8 ≤ U.size) : fixedR (U.extract k U.size) 0 = (Pk.fixN (((bn U).drop k).take 8), U.extract (k + 8) U.size, 0) := by
  unfold fixedR
  rw [if_neg (by simp), if_neg (by rw [size_from]; omega), from_from, bn_from]

/-- the result's variable is as it began, and the reader stands there -/
def At (W w : World) (r : Nat) (U : ByteArray) (k : Nat) : Prop :=
  Below W.heap.size W w ∧ w.heap[W.heap.size]? = some (.cells #[.int .i64 0, .int .i64 0, .string ⟨#[]⟩] 33 (0, 0)) ∧ Rd w r (U.extract k U.size) 0 ∧ W.heap.size < r
theorem At.then {W w w' : World} {r : Nat} {U : ByteArray} {k : Nat} (h : At W w r U k) (hb : Below w.heap.size w w') : At W w' r U k := by
  obtain ⟨h1, h2, h3, h4⟩ := h
  exact ⟨below_then h1 hb, (hb.block _ (Array.getElem?_eq_some_iff.1 h2).1).trans h2, h3.below hb, h4⟩
theorem At.told {W w w' : World} {r : Nat} {U : ByteArray} {k j : Nat} (h : At W w r U k) (t : Told w w' r (U.extract j U.size) 0) : At W w' r U j := by
  obtain ⟨h1, h2, h3, h4⟩ := h
  exact ⟨h1.grown t.1 h1.size (fun x hx => by cases hx; omega), (t.1.block _ (Array.getElem?_eq_some_iff.1 h2).1 (fun e => by cases e; omega)).trans h2, t.2, h4⟩

theorem read_step (W : World) (U : ByteArray) :
    Calls Tryd.prog 34 #[.string (U.extract 2 U.size)] (W.alloc (.cells #[.int .i64 0, .int .i64 0, .string ⟨#[]⟩] 33)) fun e w' => ∃ r, e = .returned (.pointer (some ⟨r, 0, none⟩)) ∧ At W w' r U 2 := by
  refine (read_any _ _).mono ?_
  rintro e w' ⟨rfl, rfl⟩
  refine ⟨_, rfl, ((Below.refl _ _).alloc (Nat.le_refl _) _).alloc (by simp) _, ?_, Rd.new _ _, by simp⟩
  rw [Below.heap_alloc _ _ _ (by simp)]
  exact heap_alloc_new W _
theorem read_step' (W : World) (U L : ByteArray) (hL : L = U.extract 2 U.size) :
    Calls Tryd.prog 34 #[.string L] (W.alloc (.cells #[.int .i64 0, .int .i64 0, .string ⟨#[]⟩] 33)) fun e w' => ∃ r, e = .returned (.pointer (some ⟨r, 0, none⟩)) ∧ At W w' r U 2 := by
  subst hL
  exact read_step W U
theorem byte_step {W w : World} {r : Nat} {U : ByteArray} {k j x : Nat} (h : At W w r U k) (hk : k < U.size) (hj : j = k + 1) (hx : (bn U).getD k 0 = x) (hU : U.size ≤ 1000000) :
    Calls Tryd.prog 43 #[.pointer (some ⟨r, 0, none⟩)] w fun e w' => e = .returned (.int .u8 (x : Int)) ∧ At W w' r U j := by
  subst hj
  have := byte_any r 0 _ w h.2.2.1 (by rw [size_from]; omega)
  rw [byteR_at U k hk, hx] at this
  refine this.mono ?_
  rintro e w' ⟨rfl, ht⟩
  exact ⟨rfl, h.told ht⟩
theorem fixed_step' {W w : World} {r : Nat} {U : ByteArray} {k x : Nat} (h : At W w r U k) (hk : k + 8 ≤ U.size) (hx : Pk.fixN (((bn U).drop k).take 8) = x) (hU : U.size ≤ 1000000) :
    Calls Tryd.prog 35 #[.pointer (some ⟨r, 0, none⟩)] w fun e w' => e = .returned (.int .u64 (x : Int)) ∧ At W w' r U (k + 8) := by
  have := rfixed_any r 0 _ w h.2.2.1 (by rw [size_from]; omega)
  rw [fixedR_at U k hk, hx] at this
  refine this.mono ?_
  rintro e w' ⟨rfl, ht⟩
  exact ⟨rfl, h.told ht⟩
theorem trim_step {W w : World} {r : Nat} {U : ByteArray} {k : Nat} (h : At W w r U k) (s : ByteArray) (hs : s.size ≤ 9223372036854775807) :
    Calls Tryd.prog 44 #[.string s, .string ⟨#[0]⟩] w fun e w' => e = .returned (.string ⟨(Lib.trimB s.data.toList 0).toArray⟩) ∧ At W w' r U k := by
  refine (trim_any s w hs).mono ?_
  rintro e w' ⟨rfl, rfl | rfl⟩
  · exact ⟨rfl, h⟩
  · exact ⟨rfl, h.then (Below.refl _ _).drew⟩
theorem clone_step {W w : World} {r : Nat} {U : ByteArray} {k : Nat} (h : At W w r U k) (s : ByteArray) (hs : s.size ≤ 1000000) :
    Calls Tryd.prog 45 #[.string s] w fun e w' => e = .returned (.string s) ∧ At W w' r U k := by
  refine (clone_any s w hs).mono ?_
  rintro e w' ⟨rfl, hb⟩
  exact ⟨rfl, h.then hb⟩

theorem or_i64 (n b : Nat) (hn : n < 256) (hb : b < 256) : bits .or .i64 ((n : Int) * 256) (b : Int) = ((n * 256 + b : Nat) : Int) := by
  have e := Nat.two_pow_add_eq_or_of_lt (i := 8) (b := b) (by omega) n
  have e2 : n * 256 ||| b = n * 256 + b := by
    rw [show (2 : Nat) ^ 8 = 256 by rfl] at e
    rw [Nat.mul_comm n 256]
    exact e.symm
  have h : bits .or .i64 ((n * 256 : Nat) : Int) (b : Int) = ((n * 256 + b : Nat) : Int) := by
    show IntKind.i64.wrap ((BitVec.ofInt 64 ((n * 256 : Nat) : Int) ||| BitVec.ofInt 64 (b : Int)).toNat : Int) = _
    rw [BitVec.toNat_or, ofInt_u64 _ (by omega), ofInt_u64 _ (by omega), e2, IntKind.wrap_i64]
    omega
  rw [← h]
  simp

/-- THE DOCUMENT's: the block of the bytes ahead of the sum, and of a sector -/
def blockR (U : ByteArray) : Int × Int × ByteArray × Nat :=
  if (bn U).take 2 = [67, 80] ∧ Blk.lenOf (bn U) ≤ 1007 ∧ Blk.genOf (bn U) ≤ 1152921504606846976 ∧ ∀ x ∈ (bn U).drop (13 + Blk.lenOf (bn U)), x = 0
  then (((bn U).getD 2 0 : Nat), (Blk.genOf (bn U) : Nat), U.extract 13 (13 + Blk.lenOf (bn U)), 0) else (0, 0, ⟨#[]⟩, 21)
def openR (S : ByteArray) : Int × Int × ByteArray × Nat :=
  if S.size ≠ 1024 then (0, 0, ⟨#[]⟩, 32) else if (bn S).drop 1020 ≠ Blk.le4 (Crc.sum ((bn S).take 1020)) then (0, 0, ⟨#[]⟩, 40) else blockR (S.extract 0 1020)
/-- what an answer of Open is -/
def opened (T : Int × Int × ByteArray × Nat) : Value := .tuple #[.agg #[.int .i64 T.1, .int .i64 T.2.1, .string T.2.2.1], .int .i64 (T.2.2.2 : Nat)]
theorem At.cells {W w : World} {r : Nat} {U : ByteArray} {k : Nat} (h : At W w r U k) : w.cell? ⟨W.heap.size, 0, none⟩ = some (.int .i64 0) ∧ w.cell? ⟨W.heap.size, 1, none⟩ = some (.int .i64 0) ∧ w.cell? ⟨W.heap.size, 2, none⟩ = some (.string ⟨#[]⟩) ∧ ∀ i, w.frozen? ⟨W.heap.size, i, none⟩ = false := by
  have h2 := h.2.1
  refine ⟨?_, ?_, ?_, fun i => ?_⟩
  · simp [World.cell?, h2]
  · simp [World.cell?, h2]
  · simp [World.cell?, h2]
  · simp [World.frozen?, h2]
end Go.Proofs.YtdkgifjmahkiaaaDoor.L4
