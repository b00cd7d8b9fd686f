/- What both Wraps share: the block in its box, the sector as a text, steps of a statement that leaves its order open. -/
import Derived.Test.YtdkgifjmahkiaaaDoorL4Sum
import Derived.Test.YtdkgifjmahkiaaaDoorL4Fixed
import Derived.Test.YtdkgifjmahkiaaaDoorL4Shelf
import Derived.Deep.RegionHeld3
import Derived.BigQuiet
import Derived.Laws.MakeOwn
import Derived.Laws.OwnMore
namespace Go.Proofs.YtdkgifjmahkiaaaDoor.L4
open Go.ChangeShapes Go.WideShapes Go.ChangeAt Go.RowKit

/-- THE DOCUMENT's: the sector, or the error -/
def wrapR (K G : Int) (P : ByteArray) : ByteArray × Nat :=
  if K < 0 ∨ 255 < K ∨ G < 0 ∨ 1152921504606846976 < G then (⟨#[]⟩, 1) else if 1007 < P.size then (⟨#[]⟩, 61) else (strOf (Blk.sector K.toNat G.toNat (bn P)), 0)
theorem wrapR_arg {K G : Int} {P : ByteArray} (h : K < 0 ∨ 255 < K ∨ G < 0 ∨ 1152921504606846976 < G) : wrapR K G P = (⟨#[]⟩, 1) := by unfold wrapR; rw [if_pos h]
theorem wrapR_big {K G : Int} {P : ByteArray} (h : ¬ (K < 0 ∨ 255 < K ∨ G < 0 ∨ 1152921504606846976 < G)) (hp : 1007 < P.size) : wrapR K G P = (⟨#[]⟩, 61) := by unfold wrapR; rw [if_neg h, if_pos hp]
theorem wrapR_ok {K G : Int} {P : ByteArray} (h : ¬ (K < 0 ∨ 255 < K ∨ G < 0 ∨ 1152921504606846976 < G)) (hp : ¬ 1007 < P.size) : wrapR K G P = (strOf (Blk.sector K.toNat G.toNat (bn P)), 0) := by unfold wrapR; rw [if_neg h, if_neg hp]

theorem three_conv (w : World) (a b c : Int) :
    (convert 52 9 (.slice (some ⟨w.heap.size, 0, none⟩) 3 3)).run Tryd.prog (w.alloc (.cells #[.int .u8 a, .int .u8 b, .int .u8 c] 5)) = .ok (.string (strOfNums [a, b, c])) (w.alloc (.cells #[.int .u8 a, .int .u8 b, .int .u8 c] 5)) :=
  run_convert_bytes_arg _ 52 5 Tryd.underlying52 Tryd.underlying5 w.heap.size 0 3 3 [a, b, c] (by simp) (fun i hi => by
    have e : i = 0 ∨ i = 1 ∨ i = 2 := by omega
    rcases e with rfl | rfl | rfl <;> simp) 9 Tryd.underlying9

theorem below_then {W w1 w2 : World} (h : Below W.heap.size W w1) (k : Below w1.heap.size w1 w2) : Below W.heap.size W w2 := h.trans (k.mono h.size)
/-- what a region knows: nothing old has turned, and the block lies in its box -/
def Box (w : World) (x y z : Value) (w' : World) : Prop := Below w.heap.size w w' ∧ w'.cell? ⟨w.heap.size, 0, none⟩ = some x ∧ w'.cell? ⟨w.heap.size, 1, none⟩ = some y ∧ w'.cell? ⟨w.heap.size, 2, none⟩ = some z
theorem Box.new (w : World) (x y z : Value) : Box w x y z (w.alloc (.cells #[x, y, z] 33)) := ⟨(Below.refl _ _).alloc (Nat.le_refl _) _, by simp, by simp, by simp⟩
theorem Box.then {w : World} {x y z : Value} {w1 w2 : World} (h : Box w x y z w1) (hb : Below w1.heap.size w1 w2) : Box w x y z w2 := by
  obtain ⟨h1, h2, h3, h4⟩ := h
  exact ⟨below_then h1 hb, (hb.cell (World.block_lt_of_cell? w1 _ h2)).trans h2, (hb.cell (World.block_lt_of_cell? w1 _ h3)).trans h3, (hb.cell (World.block_lt_of_cell? w1 _ h4)).trans h4⟩
theorem Box.drew {w : World} {x y z : Value} {w1 : World} (h : Box w x y z w1) : Box w x y z w1.drew := h.then (Below.refl _ _).drew
theorem Box.alloc {w : World} {x y z : Value} {w1 : World} (h : Box w x y z w1) (o : Obj) : Box w x y z (w1.alloc o) := h.then ((Below.refl _ _).alloc (Nat.le_refl _) o)

theorem three_conv_drew (w : World) (a b c : Int) :
    (convert 52 9 (.slice (some ⟨w.heap.size, 0, none⟩) 3 3)).run Tryd.prog (w.alloc (.cells #[.int .u8 a, .int .u8 b, .int .u8 c] 5)).drew = .ok (.string (strOfNums [a, b, c])) (w.alloc (.cells #[.int .u8 a, .int .u8 b, .int .u8 c] 5)).drew :=
  three_conv w.drew a b c
theorem conv_kept {w w2 : World} {a b c : Int} (hb : Below ((w.alloc (.cells #[.int .u8 a, .int .u8 b, .int .u8 c] 5)).drew).heap.size (w.alloc (.cells #[.int .u8 a, .int .u8 b, .int .u8 c] 5)).drew w2) :
    (convert 52 9 (.slice (some ⟨w.heap.size, 0, none⟩) 3 3)).run Tryd.prog w2 = .ok (.string (strOfNums [a, b, c])) w2 :=
  run_convert_bytes_arg _ 52 5 Tryd.underlying52 Tryd.underlying5 w.heap.size 0 3 3 [a, b, c] (by simp) (fun i hi => by
    rw [hb.cell (p := ⟨w.heap.size, 0 + i, none⟩) (by simp)]
    have e : i = 0 ∨ i = 1 ∨ i = 2 := by omega
    rcases e with rfl | rfl | rfl <;> simp) 9 Tryd.underlying9
theorem takeY {P : Program} {md : Region.Mode} {ops : Array Oper} {Q : Exit → Act → World → Prop} {S : World → Prop} {oi : Oper} {fuel : Nat} {listed : Array Bool} {a : Act} {w : World} (i : Nat) (d : Option Tmp) (v : Value) (hi : ops[i]? = some oi) (hd : oi.dst = d)
    (hs : Region.noSelect ops = true) (hf : Region.free md ops listed i = true) (hr : (Region.ready md ops listed).contains i = true)
    (hQ : ∀ c a w, Q (.panic c) (a.put oi.dst v) w → Q (.panic c) a w) (hw : Region.wanted oi (yielded ops a.tmps) = true) (hy : ∀ w, S w → (execOp a.eval oi).run P w = .ok (.value v) w) (hS : S w)
    (h : wpAnyH P md ops Q S fuel (listed.setIfInBounds i true) (a.put d v) w) : wpAnyH P md ops Q S (fuel + 1) listed a w := by
  subst hd
  exact wpAnyH_take hi hs hf hr hQ (Or.inl ⟨hw, hy⟩) hS h
theorem add_run (s t : ByteArray) (h : s.size + t.size ≤ 1000000) (w : World) : (Op.stringOp .add s t).run Tryd.prog w = .ok (.string (s ++ t)) w := by
  simp [Op.stringOp]
  omega

theorem zeros_size (n : Nat) : (zeros n).size = n := by unfold zeros; rw [strOf_size, List.length_replicate]
theorem bn_zeros (n : Nat) : bn (zeros n) = List.replicate n 0 := bn_strOf _ (fun b hb => by rw [(List.mem_replicate.1 hb).2]; decide)
theorem Tab.below {w w' : World} (h : Tab w) (hb : Below w.heap.size w w') : Tab w' := fun i hi =>
  (hb.cell (World.block_lt_of_cell? w ⟨0, i, none⟩ (h i hi))).trans (h i hi)
theorem text_size (k g : Nat) (P : ByteArray) : (⟨#[67, 80]⟩ ++ strOfNums [(k : Int), (P.size : Int) / 256, (P.size : Int) % 256] ++ strOf (Pk.fixL g)).size = 13 := by
  rw [ByteArray.size_append, ByteArray.size_append, strOfNums_size, strOf_size]
  rfl
theorem body_text (k g : Nat) (P : ByteArray) (hk : k ≤ 255) (hp : P.size ≤ 1007) :
    bn (⟨#[67, 80]⟩ ++ strOfNums [(k : Int), (P.size : Int) / 256, (P.size : Int) % 256] ++ strOf (Pk.fixL g) ++ (P ++ zeros (1007 - P.size))) = Blk.body k g (bn P) := by
  have e : strOfNums [(k : Int), (P.size : Int) / 256, (P.size : Int) % 256] = strOf [k, P.size / 256, P.size % 256] := rfl
  have e1 : bn ⟨#[67, 80]⟩ = [67, 80] := rfl
  rw [bn_append, bn_append, bn_append, bn_append, e, e1, bn_zeros, bn_strOf _ (Pk.fixL_lt g), bn_strOf [k, P.size / 256, P.size % 256] (fun b hb => by simp at hb; omega)]
  unfold Blk.body Blk.head
  rw [bn_length]
  rfl
theorem sector_text (k g : Nat) (P : ByteArray) (hk : k ≤ 255) (hp : P.size ≤ 1007) :
    (⟨#[67, 80]⟩ ++ strOfNums [(k : Int), (P.size : Int) / 256, (P.size : Int) % 256] ++ strOf (Pk.fixL g) ++ (P ++ zeros (1007 - P.size))) ++ strOf (Blk.le4 (Crc.sum (bn (⟨#[67, 80]⟩ ++ strOfNums [(k : Int), (P.size : Int) / 256, (P.size : Int) % 256] ++ strOf (Pk.fixL g) ++ (P ++ zeros (1007 - P.size)))))) = strOf (Blk.sector k g (bn P)) := by
  have h := body_text k g P hk hp
  have h2 := congrArg strOf h
  rw [strOf_bn] at h2
  rw [h, h2, ← strOf_append]
  rfl
theorem ret2_si {k : IntKind} {s t : ByteArray} {a : Int} (h : s = t) : Ending.returned (.tuple #[.string s, .int k a]) = .returned (.tuple #[.string t, .int k a]) := by rw [h]

/-- make([]byte, n): a new row of zeros -/
def mk (n : Nat) (w : World) : World := w.alloc (.cells (madeCells (Value.int .u8 0).cells (n * 1)) 5)
theorem mk_below (n : Nat) (w : World) : Below w.heap.size w (mk n w) := (Below.refl _ _).alloc (Nat.le_refl _) _
theorem make_run (n : Nat) (hn : n ≤ 8192) (w : World) : (Instr.makeSlice 52 (.int .i64 (n : Int)) (.int .i64 (n : Int))).run Tryd.prog w = .ok (.slice (some ⟨w.heap.size, 0, none⟩) n n) (mk n w) := by
  obtain ⟨i0, hi, hz0, hz1, hz2⟩ := info_parts info5
  have h := run_make (P := Tryd.prog) w 52 5 i0 (.int .u8 0) Tryd.underlying52 hi hz0 .i64 .i64 n n (by omega) (Int.le_refl _) (by rw [hz2]; omega) (by omega)
  rw [hz1] at h
  simpa [mk] using h
theorem mk_cell (n : Nat) (w : World) (i : Nat) (hi : i < n) : (mk n w).cell? ⟨w.heap.size, i, none⟩ = some (.int .u8 0) := by
  have e : (madeCells (Value.int .u8 0).cells n)[i]? = some (.int .u8 0) := by
    rw [← Array.getElem?_toList, show (Value.int .u8 0).cells = #[.int .u8 0] from rfl, toList_madeCells_one, List.getElem?_replicate, if_pos hi]
  unfold mk
  simp [e]
theorem make_conv (n : Nat) (w : World) : (convert 52 9 (.slice (some ⟨w.heap.size, 0, none⟩) n n)).run Tryd.prog (mk n w) = .ok (.string (zeros n)) (mk n w) := by
  have h := run_convert_bytes_arg (mk n w) 52 5 Tryd.underlying52 Tryd.underlying5 w.heap.size 0 n n (List.replicate n 0) (by simp) (fun i hi => by
    rw [Nat.zero_add, mk_cell n w i hi]
    simp [hi]) 9 Tryd.underlying9
  rw [h]
  unfold zeros strOf
  rw [List.map_replicate]
  rfl
end Go.Proofs.YtdkgifjmahkiaaaDoor.L4
