/- Texts that the proof needs, one behind the other. -/
import Derived.Test.YtdelobaiicoogaaGreatDoorMab
import Derived.Deep.RegionHeld3
import Derived.BigQuiet
import Derived.Laws.MakeOwn
import Derived.Laws.OwnMore
import Derived.Test.YtdelobaiicoogaaGreatDoorMaa
import Derived.WalkMore
import Derived.RegionTactic
import Derived.ChangeAlike
import Derived.Shelf.Pu.Clone
import Derived.Lib.Strings
/- What both Wraps share: the block in its box, the sector as a text, steps of a statement that leaves its order open. -/
namespace Go.Proofs.YtdelobaiicoogaaGreatDoor.L4
open Go.ChangeShapes Go.WideShapes Go.ChangeAt Go.RowKit

/-- THE DOCUMENT's: the sector, or the error -/
def wrapR (K G : Int) (P : ByteArray) : ByteArray × Nat :=
  if K < 0 ∨ 255 < K ∨ G < 0 ∨ 1152921504606846976 < G then (⟨#[]⟩, 1) else if 1007 < P.size then (⟨#[]⟩, 61) else (strOf (Blk.sector K.toNat G.toNat (bn P)), 0)
theorem wrapR_arg {K G : Int} {P : ByteArray} (h : K < 0 ∨ 255 < K ∨ G < 0 ∨ 1152921504606846976 < G) : wrapR K G P = (⟨#[]⟩, 1) := by unfold wrapR; rw [if_pos h]
theorem wrapR_big {K G : Int} {P : ByteArray} (h : ¬ (K < 0 ∨ 255 < K ∨ G < 0 ∨ 1152921504606846976 < G)) (hp : 1007 < P.size) : wrapR K G P = (⟨#[]⟩, 61) := by unfold wrapR; rw [if_neg h, if_pos hp]
theorem wrapR_ok {K G : Int} {P : ByteArray} (h : ¬ (K < 0 ∨ 255 < K ∨ G < 0 ∨ 1152921504606846976 < G)) (hp : ¬ 1007 < P.size) : wrapR K G P = (strOf (Blk.sector K.toNat G.toNat (bn P)), 0) := by unfold wrapR; rw [if_neg h, if_neg hp]

theorem three_conv (w : World) (a b c : Int) :
    (convert 140 9 (.slice (some ⟨w.heap.size, 0, none⟩) 3 3)).run Tryz.prog (w.alloc (.cells #[.int .u8 a, .int .u8 b, .int .u8 c] 5)) = .ok (.string (strOfNums [a, b, c])) (w.alloc (.cells #[.int .u8 a, .int .u8 b, .int .u8 c] 5)) :=
  run_convert_bytes_arg _ 140 5 Tryz.underlying140 Tryz.underlying5 w.heap.size 0 3 3 [a, b, c] (by simp) (fun i hi => by
    have e : i = 0 ∨ i = 1 ∨ i = 2 := by omega
    rcases e with rfl | rfl | rfl <;> simp) 9 Tryz.underlying9

theorem below_then {W w1 w2 : World} (h : Below W.heap.size W w1) (k : Below w1.heap.size w1 w2) : Below W.heap.size W w2 := h.trans (k.mono h.size)
/-- what a region knows: nothing old has turned, and the block lies in its box -/
def Box (w : World) (x y z : Value) (w' : World) : Prop := Below w.heap.size w w' ∧ w'.cell? ⟨w.heap.size, 0, none⟩ = some x ∧ w'.cell? ⟨w.heap.size, 1, none⟩ = some y ∧ w'.cell? ⟨w.heap.size, 2, none⟩ = some z
theorem Box.new (w : World) (x y z : Value) : Box w x y z (w.alloc (.cells #[x, y, z] 90)) := ⟨(Below.refl _ _).alloc (Nat.le_refl _) _, by simp, by simp, by simp⟩
theorem Box.then {w : World} {x y z : Value} {w1 w2 : World} (h : Box w x y z w1) (hb : Below w1.heap.size w1 w2) : Box w x y z w2 := by
  obtain ⟨h1, h2, h3, h4⟩ := h
  exact ⟨below_then h1 hb, (hb.cell (World.block_lt_of_cell? w1 _ h2)).trans h2, (hb.cell (World.block_lt_of_cell? w1 _ h3)).trans h3, (hb.cell (World.block_lt_of_cell? w1 _ h4)).trans h4⟩
theorem Box.drew {w : World} {x y z : Value} {w1 : World} (h : Box w x y z w1) : Box w x y z w1.drew := h.then (Below.refl _ _).drew
theorem Box.alloc {w : World} {x y z : Value} {w1 : World} (h : Box w x y z w1) (o : Obj) : Box w x y z (w1.alloc o) := h.then ((Below.refl _ _).alloc (Nat.le_refl _) o)

theorem three_conv_drew (w : World) (a b c : Int) :
    (convert 140 9 (.slice (some ⟨w.heap.size, 0, none⟩) 3 3)).run Tryz.prog (w.alloc (.cells #[.int .u8 a, .int .u8 b, .int .u8 c] 5)).drew = .ok (.string (strOfNums [a, b, c])) (w.alloc (.cells #[.int .u8 a, .int .u8 b, .int .u8 c] 5)).drew :=
  three_conv w.drew a b c
theorem conv_kept {w w2 : World} {a b c : Int} (hb : Below ((w.alloc (.cells #[.int .u8 a, .int .u8 b, .int .u8 c] 5)).drew).heap.size (w.alloc (.cells #[.int .u8 a, .int .u8 b, .int .u8 c] 5)).drew w2) :
    (convert 140 9 (.slice (some ⟨w.heap.size, 0, none⟩) 3 3)).run Tryz.prog w2 = .ok (.string (strOfNums [a, b, c])) w2 :=
  run_convert_bytes_arg _ 140 5 Tryz.underlying140 Tryz.underlying5 w.heap.size 0 3 3 [a, b, c] (by simp) (fun i hi => by
    rw [hb.cell (p := ⟨w.heap.size, 0 + i, none⟩) (by simp)]
    have e : i = 0 ∨ i = 1 ∨ i = 2 := by omega
    rcases e with rfl | rfl | rfl <;> simp) 9 Tryz.underlying9
theorem takeY {P : Program} {md : Region.Mode} {ops : Array Oper} {Q : Exit → Act → World → Prop} {S : World → Prop} {oi : Oper} {fuel : Nat} {listed : Array Bool} {a : Act} {w : World} (i : Nat) (d : Option Tmp) (v : Value) (hi : ops[i]? = some oi) (hd : oi.dst = d)
    (hs : Region.noSelect ops = true) (hf : Region.free md ops listed i = true) (hr : (Region.ready md ops listed).contains i = true)
    (hQ : ∀ c a w, Q (.panic c) (a.put oi.dst v) w → Q (.panic c) a w) (hw : Region.wanted oi (yielded ops a.tmps) = true) (hy : ∀ w, S w → (execOp a.eval oi).run P w = .ok (.value v) w) (hS : S w)
    (h : wpAnyH P md ops Q S fuel (listed.setIfInBounds i true) (a.put d v) w) : wpAnyH P md ops Q S (fuel + 1) listed a w := by
  subst hd
  exact wpAnyH_take hi hs hf hr hQ (Or.inl ⟨hw, hy⟩) hS h
theorem add_run (s t : ByteArray) (h : s.size + t.size ≤ 1000000) (w : World) : (Op.stringOp .add s t).run Tryz.prog w = .ok (.string (s ++ t)) w := by
  simp [Op.stringOp]
  omega

theorem zeros_size (n : Nat) : (zeros n).size = n := by unfold zeros; rw [strOf_size, List.length_replicate]
theorem bn_zeros (n : Nat) : bn (zeros n) = List.replicate n 0 := bn_strOf _ (fun b hb => by rw [(List.mem_replicate.1 hb).2]; decide)
theorem Tab.below {w w' : World} (h : Tab w) (hb : Below w.heap.size w w') : Tab w' := fun i hi =>
  (hb.cell (World.block_lt_of_cell? w ⟨0, i, none⟩ (h i hi))).trans (h i hi)
theorem text_size (k g : Nat) (P : ByteArray) : (⟨#[67, 80]⟩ ++ strOfNums [(k : Int), (P.size : Int) / 256, (P.size : Int) % 256] ++ strOf (Pk.fixL g)).size = 13 := by
  rw [ByteArray.size_append, ByteArray.size_append, strOfNums_size, strOf_size]
  rfl
theorem body_text (k g : Nat) (P : ByteArray) (hk : k ≤ 255) (hp : P.size ≤ 1007) :
    bn (⟨#[67, 80]⟩ ++ strOfNums [(k : Int), (P.size : Int) / 256, (P.size : Int) % 256] ++ strOf (Pk.fixL g) ++ (P ++ zeros (1007 - P.size))) = Blk.body k g (bn P) := by
  have e : strOfNums [(k : Int), (P.size : Int) / 256, (P.size : Int) % 256] = strOf [k, P.size / 256, P.size % 256] := rfl
  have e1 : bn ⟨#[67, 80]⟩ = [67, 80] := rfl
  rw [bn_append, bn_append, bn_append, bn_append, e, e1, bn_zeros, bn_strOf _ (Pk.fixL_lt g), bn_strOf [k, P.size / 256, P.size % 256] (fun b hb => by simp at hb; omega)]
  unfold Blk.body Blk.head
  rw [bn_length]
  rfl
theorem sector_text (k g : Nat) (P : ByteArray) (hk : k ≤ 255) (hp : P.size ≤ 1007) :
    (⟨#[67, 80]⟩ ++ strOfNums [(k : Int), (P.size : Int) / 256, (P.size : Int) % 256] ++ strOf (Pk.fixL g) ++ (P ++ zeros (1007 - P.size))) ++ strOf (Blk.le4 (Crc.sum (bn (⟨#[67, 80]⟩ ++ strOfNums [(k : Int), (P.size : Int) / 256, (P.size : Int) % 256] ++ strOf (Pk.fixL g) ++ (P ++ zeros (1007 - P.size)))))) = strOf (Blk.sector k g (bn P)) := by
  have h := body_text k g P hk hp
  have h2 := congrArg strOf h
  rw [strOf_bn] at h2
  rw [h, h2, ← strOf_append]
  rfl
theorem ret2_si {k : IntKind} {s t : ByteArray} {a : Int} (h : s = t) : Ending.returned (.tuple #[.string s, .int k a]) = .returned (.tuple #[.string t, .int k a]) := by rw [h]

/-- make([]byte, n): a new row of zeros -/
def mk (n : Nat) (w : World) : World := w.alloc (.cells (madeCells (Value.int .u8 0).cells (n * 1)) 5)
theorem mk_below (n : Nat) (w : World) : Below w.heap.size w (mk n w) := (Below.refl _ _).alloc (Nat.le_refl _) _
theorem make_run (n : Nat) (hn : n ≤ 8192) (w : World) : (Instr.makeSlice 140 (.int .i64 (n : Int)) (.int .i64 (n : Int))).run Tryz.prog w = .ok (.slice (some ⟨w.heap.size, 0, none⟩) n n) (mk n w) := by
  obtain ⟨i0, hi, hz0, hz1, hz2⟩ := info_parts info5
  have h := run_make (P := Tryz.prog) w 140 5 i0 (.int .u8 0) Tryz.underlying140 hi hz0 .i64 .i64 n n (by omega) (Int.le_refl _) (by rw [hz2]; omega) (by omega)
  rw [hz1] at h
  simpa [mk] using h
theorem mk_cell (n : Nat) (w : World) (i : Nat) (hi : i < n) : (mk n w).cell? ⟨w.heap.size, i, none⟩ = some (.int .u8 0) := by
  have e : (madeCells (Value.int .u8 0).cells n)[i]? = some (.int .u8 0) := by
    rw [← Array.getElem?_toList, show (Value.int .u8 0).cells = #[.int .u8 0] from rfl, toList_madeCells_one, List.getElem?_replicate, if_pos hi]
  unfold mk
  simp [e]
theorem make_conv (n : Nat) (w : World) : (convert 140 9 (.slice (some ⟨w.heap.size, 0, none⟩) n n)).run Tryz.prog (mk n w) = .ok (.string (zeros n)) (mk n w) := by
  have h := run_convert_bytes_arg (mk n w) 140 5 Tryz.underlying140 Tryz.underlying5 w.heap.size 0 n n (List.replicate n 0) (by simp) (fun i hi => by
    rw [Nat.zero_add, mk_cell n w i hi]
    simp [hi]) 9 Tryz.underlying9
  rw [h]
  unfold zeros strOf
  rw [List.map_replicate]
  rfl
end Go.Proofs.YtdelobaiicoogaaGreatDoor.L4

/- What stands ahead: the closure that tells an error, and the numbers at the beginning of a text. -/
namespace Go.Proofs.YtdelobaiicoogaaGreatDoor.L4
open Go.ChangeShapes Go.WideShapes Go.ChangeAt Go.RowKit

/-- a reader in memory -/
def Rd (w : World) (r : Nat) (L : ByteArray) (e : Nat) : Prop := w.heap[r]? = some (.cells #[.string L, .int .i64 (e : Int)] 334 (0, 0))
theorem Rd.cell0 {w : World} {r e : Nat} {L : ByteArray} (h : Rd w r L e) : w.cell? ⟨r, 0, none⟩ = some (.string L) := by
  unfold Rd at h
  simp [World.cell?, h]
theorem Rd.cell1 {w : World} {r e : Nat} {L : ByteArray} (h : Rd w r L e) : w.cell? ⟨r, 1, none⟩ = some (.int .i64 (e : Int)) := by
  unfold Rd at h
  simp [World.cell?, h]
theorem Rd.free {w : World} {r e : Nat} {L : ByteArray} (h : Rd w r L e) (i : Nat) : w.frozen? ⟨r, i, none⟩ = false := by
  unfold Rd at h
  simp [World.frozen?, h]
theorem Rd.lt {w : World} {r e : Nat} {L : ByteArray} (h : Rd w r L e) : r < w.heap.size := (Array.getElem?_eq_some_iff.1 h).1
theorem Rd.setErr {w : World} {r e : Nat} {L : ByteArray} (h : Rd w r L e) (e' : Nat) : Rd (w.setCell ⟨r, 1, none⟩ (.int .i64 (e' : Int))) r L e' := by
  unfold Rd at *
  simp [World.setCell, Array.getElem?_modify, h]
theorem Rd.setLeft {w : World} {r e : Nat} {L : ByteArray} (h : Rd w r L e) (L' : ByteArray) : Rd (w.setCell ⟨r, 0, none⟩ (.string L')) r L' e := by
  unfold Rd at *
  simp [World.setCell, Array.getElem?_modify, h]

theorem full_of {s : ByteArray} (h : 0 < s.size) : s.toList.isEmpty = false := by
  rw [ByteArray.toList_eq, List.isEmpty_eq_false_iff]
  intro e
  have : s.data.toList.length = 0 := by rw [e]; rfl
  rw [Array.length_toList] at this
  exact absurd this (Nat.ne_of_gt h)

/-- the closure tells an error: it is the reader's -/
def tellW (w : World) (r er : Nat) : World := if er = 0 then w else w.setCell ⟨r, 1, none⟩ (.int .i64 (er : Int))

set_option maxHeartbeats 400000 in
theorem tell40 (x : Int) (c r e : Nat) (L : ByteArray) (w : World) (hc : w.cell? ⟨c, 0, none⟩ = some (.pointer (some ⟨r, 0, none⟩))) (hr : Rd w r L e) :
    Calls Tryz.prog 247 #[.int .i64 x, .pointer (some ⟨c, 0, none⟩)] w fun e w' => e = .returned (.tuple #[]) ∧ w' = w.setCell ⟨r, 1, none⟩ (.int .i64 x) := by
  have h1 := hr.cell1
  have hf := hr.free 1
  clear hr
  go_enter Tryz.func247, Tryz.ntmps247
  go_wp2
  go_end0
  exact ⟨rfl, rfl⟩
set_option maxHeartbeats 400000 in
theorem tell41 (x : Int) (c r e : Nat) (L : ByteArray) (w : World) (hc : w.cell? ⟨c, 0, none⟩ = some (.pointer (some ⟨r, 0, none⟩))) (hr : Rd w r L e) :
    Calls Tryz.prog 248 #[.int .i64 x, .pointer (some ⟨c, 0, none⟩)] w fun e w' => e = .returned (.tuple #[]) ∧ w' = w.setCell ⟨r, 1, none⟩ (.int .i64 x) := by
  have h1 := hr.cell1
  have hf := hr.free 1
  clear hr
  go_enter Tryz.func248, Tryz.ntmps248
  go_wp2
  go_end0
  exact ⟨rfl, rfl⟩
set_option maxHeartbeats 400000 in
theorem byteAhead_none (c r e : Nat) (L s : ByteArray) (w : World) (hs : s.size = 0) (hc : w.cell? ⟨c, 0, none⟩ = some (.pointer (some ⟨r, 0, none⟩))) (hr : Rd w r L e) :
    Calls Tryz.prog 224 #[.string s, .func (.func 247) #[] #[.pointer (some ⟨c, 0, none⟩)]] w fun e w' => e = .returned (.tuple #[.int .u8 0, .int .i64 0]) ∧ w' = w.setCell ⟨r, 1, none⟩ (.int .i64 20) := by
  obtain rfl : s = ⟨#[]⟩ := ByteArray.ext (Array.eq_empty_of_size_eq_zero hs)
  have HC := hide hc
  have HR := hide hr
  clear hc hr hs
  go_enter Tryz.func224, Tryz.ntmps224
  go_wp2_with (go_at_call 247; refine (tell40 _ _ _ _ _ _ (unhide HC) (unhide HR)).mono ?_; rintro e w' ⟨rfl, rfl⟩)
  go_ret2
  exact ⟨rfl, rfl⟩
set_option maxHeartbeats 400000 in
theorem byteAhead_some (v : Value) (s : ByteArray) (w : World) (hs : 0 < s.size) :
    Calls Tryz.prog 224 #[.string s, v] w fun e w' => e = .returned (.tuple #[.int .u8 ((s[0]).toNat : Int), .int .i64 1]) ∧ w' = w := by
  have he := full_of hs
  go_enter Tryz.func224, Tryz.ntmps224
  go_wp2
  go_ret2
  exact ⟨rfl, rfl⟩

theorem int_eq {k : IntKind} {a b : Int} (h : a = b) : Value.int k a = .int k b := by rw [h]
set_option maxHeartbeats 400000 in
theorem fixedAhead_none (c r e : Nat) (L s : ByteArray) (w : World) (hs : s.size < 8) (hc : w.cell? ⟨c, 0, none⟩ = some (.pointer (some ⟨r, 0, none⟩))) (hr : Rd w r L e) :
    Calls Tryz.prog 226 #[.string s, .func (.func 248) #[] #[.pointer (some ⟨c, 0, none⟩)]] w fun e w' => e = .returned (.tuple #[.int .u64 0, .int .i64 0]) ∧ w' = w.setCell ⟨r, 1, none⟩ (.int .i64 20) := by
  have HC := hide hc
  have HR := hide hr
  clear hc hr
  go_enter Tryz.func226, Tryz.ntmps226
  go_wp2_with (go_at_call 248; refine (tell41 _ _ _ _ _ _ (unhide HC) (unhide HR)).mono ?_; rintro e w' ⟨rfl, rfl⟩)
  go_ret2
  exact ⟨rfl, rfl⟩

theorem take_snoc_bn (s : ByteArray) (k : Nat) (h : k < s.size) : (bn s).take (k + 1) = (bn s).take k ++ [s[k].toNat] := by
  rw [List.take_succ_eq_append_getElem (by rw [bn_length]; exact h)]
  congr 2
  have := bn_at s k h
  rw [List.getElem?_eq_getElem (by rw [bn_length]; exact h)] at this
  exact Option.some.inj this
theorem or_byte (n b : Nat) (hn : n < 72057594037927936) (hb : b < 256) : bits .or .u64 ((n : Int) * 256) (b : Int) = ((n * 256 + b : Nat) : Int) := by
  have h := u64_or_nat (n * 256) b (by omega) (by omega)
  have e := Nat.two_pow_add_eq_or_of_lt (i := 8) (b := b) (by omega) n
  have e2 : n * 256 ||| b = n * 256 + b := by
    rw [show (2 : Nat) ^ 8 = 256 by rfl] at e
    rw [Nat.mul_comm n 256]
    exact e.symm
  rw [e2] at h
  rw [← h]
  simp
theorem fix_bound (s : ByteArray) (i : Nat) (hi : i ≤ 7) : Pk.fixN ((bn s).take i) < 72057594037927936 := by
  have h1 := Pk.fixN_lt ((bn s).take i) (fun b hb => bn_lt s b (List.mem_of_mem_take hb))
  have h2 : 256 ^ ((bn s).take i).length ≤ 256 ^ 7 := Nat.pow_le_pow_right (by decide) (by rw [List.length_take]; omega)
  have h3 : (256 : Nat) ^ 7 = 72057594037927936 := by decide
  omega

set_option maxRecDepth 10000 in
set_option maxHeartbeats 1000000 in
theorem fixedAhead_some (v : Value) (s : ByteArray) (w : World) (hs : 8 ≤ s.size) :
    Calls Tryz.prog 226 #[.string s, v] w fun e w' => e = .returned (.tuple #[.int .u64 (Pk.fixN ((bn s).take 8) : Nat), .int .i64 8]) ∧ w' = w := by
  go_enter Tryz.func226, Tryz.ntmps226
  go_wp2
  go_loop [6, 13] (fun t j => ∃ i : Nat, i ≤ 8 ∧ j = .int .i64 i ∧ t = .int .u64 (Pk.fixN ((bn s).take i) : Nat)) (fun _ j => 8 - (intOf j).toNat)
  case atStart => exact ⟨0, by omega, rfl, rfl⟩
  case round =>
    obtain ⟨i, hi, rfl, rfl⟩ := hrel
    by_cases hlt : i < 8
    · have his : i < s.size := by omega
      have hb : (s[i].toNat : Int) < 256 := by have := s[i].toNat_lt; omega
      have hn := fix_bound s i (by omega)
      have HS : Hid (Pk.fixN ((bn s).take (i + 1)) = Pk.fixN ((bn s).take i) * 256 + s[i].toNat) := by
        show _ = _
        rw [take_snoc_bn s i his, Pk.fixN_snoc]
      generalize Pk.fixN ((bn s).take i) = n at *
      have HE := hide (or_byte n s[i].toNat hn (by omega))
      go_wp2
      go_round
      case rel => exact ⟨i + 1, by omega, by go_num, by rw [unhide HS]; exact int_eq (unhide HE)⟩
      case measure => simp [intOf]; omega
    · obtain rfl : i = 8 := by omega
      go_wp2
      go_ret2
      exact ⟨rfl, rfl⟩
/-- nothing but the reader has turned, and the reader is this -/
def Told (w w' : World) (r : Nat) (L : ByteArray) (e : Nat) : Prop := w.grownBy w' (some r) ∧ Rd w' r L e
theorem grown_refl (w : World) (r : Option Nat) : w.grownBy w r := ⟨rfl, rfl, rfl, Nat.le_refl _, fun _ _ _ => rfl⟩
theorem grown_set (w : World) (g j : Nat) (u : Value) : w.grownBy (w.setCell ⟨g, j, none⟩ u) (some g) :=
  ⟨rfl, rfl, rfl, by simp, fun k _ hne => Below.heap_setCell w ⟨g, j, none⟩ u k (fun e => hne (by rw [e]))⟩
theorem grown_trans {a b c : World} {r : Option Nat} (h : a.grownBy b r) (k : b.grownBy c r) : a.grownBy c r :=
  ⟨k.os.trans h.os, k.tape.trans h.tape, k.output.trans h.output, Nat.le_trans h.size k.size, fun i hi hne => (k.block i (Nat.lt_of_lt_of_le hi h.size) hne).trans (h.block i hi hne)⟩
theorem grown_below {w w' : World} (h : Below w.heap.size w w') (r : Option Nat) : w.grownBy w' r := ⟨h.os, h.tape, h.output, h.size, fun k hk _ => h.block k hk⟩
theorem Rd.below {w w' : World} {r e : Nat} {L : ByteArray} (h : Rd w r L e) (hb : Below w.heap.size w w') : Rd w' r L e := (hb.block r h.lt).trans h
theorem Told.refl {w : World} {r e : Nat} {L : ByteArray} (h : Rd w r L e) : Told w w r L e := ⟨grown_refl _ _, h⟩
theorem Told.err {w : World} {r e : Nat} {L : ByteArray} (h : Rd w r L e) (e' : Nat) : Told w (w.setCell ⟨r, 1, none⟩ (.int .i64 (e' : Int))) r L e' := ⟨grown_set _ _ _ _, h.setErr e'⟩
theorem Told.tell {w : World} {r : Nat} {L : ByteArray} (h : Rd w r L 0) (e' : Nat) : Told w (tellW w r e') r L e' := by
  unfold tellW
  split
  · rename_i h0; subst h0; exact .refl h
  · exact .err h e'

end Go.Proofs.YtdelobaiicoogaaGreatDoor.L4

/- What take does: it goes on behind what stands ahead. -/
namespace Go.Proofs.YtdelobaiicoogaaGreatDoor.L4
open Go.ChangeShapes Go.WideShapes Go.ChangeAt Go.RowKit

set_option maxHeartbeats 400000 in
theorem err_any (r e : Nat) (L : ByteArray) (w : World) (hr : Rd w r L e) :
    Calls Tryz.prog 235 #[.pointer (some ⟨r, 0, none⟩)] w fun x w' => x = .returned (.int .i64 (e : Int)) ∧ w' = w := by
  have h1 := hr.cell1
  clear hr
  go_enter Tryz.func235, Tryz.ntmps235
  go_wp2
  go_ret
  exact ⟨rfl, rfl⟩

theorem Rd.alloc {w : World} {r e : Nat} {L : ByteArray} (h : Rd w r L e) (o : Obj) : Rd (w.alloc o) r L e := h.below ((Below.refl _ _).alloc (Nat.le_refl _) o)
theorem Rd.drew {w : World} {r e : Nat} {L : ByteArray} (h : Rd w r L e) : Rd w.drew r L e := h.below (Below.refl _ _).drew
theorem grown_drew (w : World) (r : Option Nat) : w.grownBy w.drew r := grown_below (Below.refl _ _).drew r
theorem grown_alloc (w : World) (o : Obj) (r : Option Nat) : w.grownBy (w.alloc o) r := grown_below ((Below.refl _ _).alloc (Nat.le_refl _) o) r
/-- behind the store -/
theorem Told.left {w w' : World} {o : Obj} {r e : Nat} {L : ByteArray} (h : Told (w.alloc o) w' r L e) (L' : ByteArray) : Told w (w'.setCell ⟨r, 0, none⟩ (.string L')).drew r L' e :=
  ⟨grown_trans (grown_trans (grown_trans (grown_alloc w o _) h.1) (grown_set _ _ _ _)) (grown_drew _ _), (h.2.setLeft L').drew⟩
theorem Told.box {w w' : World} {r e : Nat} {L : ByteArray} {v : Value} {t : TypeId} (h : Told (w.alloc (.cells #[v] t)) w' r L e) (hr : r < w.heap.size) : w'.cell? ⟨w.heap.size, 0, none⟩ = some v :=
  World.grownBy.cell h.1 (by simp) (by simp; omega)

set_option maxRecDepth 10000 in
set_option maxHeartbeats 1000000 in
theorem take_err_u8 (v : Value) (r e : Nat) (L : ByteArray) (w : World) (hr : Rd w r L e) (h0 : e ≠ 0) :
    Calls Tryz.prog 223 #[.pointer (some ⟨r, 0, none⟩), v] w fun x w' => x = .returned (.int .u8 0) ∧ Told w w' r L e := by
  have HE := hide (err_any r e L _ (hr.alloc (.cells #[.pointer (some ⟨r, 0, none⟩)] 297)))
  have HR := hide hr
  clear hr
  have hne : ((e : Int) == 0) = false := beq_eq_false_iff_ne.2 (by omega)
  have hne2 : ((e : Int) != 0) = true := bne_iff_ne.2 (by omega)
  clear h0
  go_enter Tryz.func223, Tryz.ntmps223
  go_wp2_with (go_at_call 235; refine (unhide HE).mono ?_; rintro x w' ⟨rfl, rfl⟩)
  go_ret
  exact ⟨rfl, grown_alloc _ _ _, (unhide HR).alloc _⟩
set_option maxRecDepth 10000 in
set_option maxHeartbeats 1000000 in
theorem take_err_u64 (v : Value) (r e : Nat) (L : ByteArray) (w : World) (hr : Rd w r L e) (h0 : e ≠ 0) :
    Calls Tryz.prog 225 #[.pointer (some ⟨r, 0, none⟩), v] w fun x w' => x = .returned (.int .u64 0) ∧ Told w w' r L e := by
  have HE := hide (err_any r e L _ (hr.alloc (.cells #[.pointer (some ⟨r, 0, none⟩)] 297)))
  have HR := hide hr
  clear hr
  have hne : ((e : Int) == 0) = false := beq_eq_false_iff_ne.2 (by omega)
  have hne2 : ((e : Int) != 0) = true := bne_iff_ne.2 (by omega)
  clear h0
  go_enter Tryz.func225, Tryz.ntmps225
  go_wp2_with (go_at_call 235; refine (unhide HE).mono ?_; rintro x w' ⟨rfl, rfl⟩)
  go_ret
  exact ⟨rfl, grown_alloc _ _ _, (unhide HR).alloc _⟩
set_option maxRecDepth 10000 in
set_option maxHeartbeats 1000000 in
theorem take_byte (r k er : Nat) (n : Nat) (L : ByteArray) (w : World) (hr : Rd w r L 0) (_hL : L.size ≤ 1000000) (hk : k ≤ L.size)
    (hA : Calls Tryz.prog 224 #[.string L, .func (.func 247) #[] #[.pointer (some ⟨w.heap.size, 0, none⟩)]] (w.alloc (.cells #[.pointer (some ⟨r, 0, none⟩)] 297)) fun x w' =>
      x = .returned (.tuple #[.int .u8 (n : Int), .int .i64 (k : Int)]) ∧ Told (w.alloc (.cells #[.pointer (some ⟨r, 0, none⟩)] 297)) w' r L er) :
    Calls Tryz.prog 223 #[.pointer (some ⟨r, 0, none⟩), .func (.func 224) #[] #[]] w fun x w' => x = .returned (.int .u8 (n : Int)) ∧ Told w w' r (L.extract k L.size) er := by
  have HE := hide (err_any r 0 L _ (hr.alloc (.cells #[.pointer (some ⟨r, 0, none⟩)] 297)))
  have HA := hide hA
  have hlt := hr.lt
  have hne : ¬ r = w.heap.size := by omega
  have hc0 : (w.alloc (.cells #[.pointer (some ⟨r, 0, none⟩)] 297)).cell? ⟨r, 0, none⟩ = some (.string L) := (hr.alloc _).cell0
  clear hr hA
  go_enter Tryz.func223, Tryz.ntmps223
  go_wp2_with (first
    | (go_at_call 235; refine (unhide HE).mono ?_; rintro x w' ⟨rfl, rfl⟩)
    | (go_at_call 224; refine (unhide HA).mono ?_; rintro x w' ⟨rfl, ht⟩; have hb0 := ht.2.cell0; have hf0 := ht.2.free 0; have hbx := ht.box hlt; have HT := hide ht; clear ht))
  go_region
  all_goals go_wp2
  all_goals go_ret
  all_goals exact ⟨rfl, (unhide HT).left _⟩
set_option maxRecDepth 10000 in
set_option maxHeartbeats 1000000 in
theorem take_fixed (r k er : Nat) (n : Nat) (L : ByteArray) (w : World) (hr : Rd w r L 0) (_hL : L.size ≤ 1000000) (hk : k ≤ L.size)
    (hA : Calls Tryz.prog 226 #[.string L, .func (.func 248) #[] #[.pointer (some ⟨w.heap.size, 0, none⟩)]] (w.alloc (.cells #[.pointer (some ⟨r, 0, none⟩)] 297)) fun x w' =>
      x = .returned (.tuple #[.int .u64 (n : Int), .int .i64 (k : Int)]) ∧ Told (w.alloc (.cells #[.pointer (some ⟨r, 0, none⟩)] 297)) w' r L er) :
    Calls Tryz.prog 225 #[.pointer (some ⟨r, 0, none⟩), .func (.func 226) #[] #[]] w fun x w' => x = .returned (.int .u64 (n : Int)) ∧ Told w w' r (L.extract k L.size) er := by
  have HE := hide (err_any r 0 L _ (hr.alloc (.cells #[.pointer (some ⟨r, 0, none⟩)] 297)))
  have HA := hide hA
  have hlt := hr.lt
  have hne : ¬ r = w.heap.size := by omega
  have hc0 : (w.alloc (.cells #[.pointer (some ⟨r, 0, none⟩)] 297)).cell? ⟨r, 0, none⟩ = some (.string L) := (hr.alloc _).cell0
  clear hr hA
  go_enter Tryz.func225, Tryz.ntmps225
  go_wp2_with (first
    | (go_at_call 235; refine (unhide HE).mono ?_; rintro x w' ⟨rfl, rfl⟩)
    | (go_at_call 226; refine (unhide HA).mono ?_; rintro x w' ⟨rfl, ht⟩; have hb0 := ht.2.cell0; have hf0 := ht.2.free 0; have hbx := ht.box hlt; have HT := hide ht; clear ht))
  go_region
  all_goals go_wp2
  all_goals go_ret
  all_goals exact ⟨rfl, (unhide HT).left _⟩
end Go.Proofs.YtdelobaiicoogaaGreatDoor.L4

/- What a reader of package pack answers, call by call. -/
namespace Go.Proofs.YtdelobaiicoogaaGreatDoor.L4
open Go.ChangeShapes Go.WideShapes Go.ChangeAt Go.RowKit

/-- THE DOCUMENT's: the answer, what is left, the error -/
def byteR (L : ByteArray) (e : Nat) : Nat × ByteArray × Nat :=
  if e ≠ 0 then (0, L, e) else if L.size = 0 then (0, L, 20) else ((bn L).getD 0 0, L.extract 1 L.size, 0)
def fixedR (L : ByteArray) (e : Nat) : Nat × ByteArray × Nat :=
  if e ≠ 0 then (0, L, e) else if L.size < 8 then (0, L, 20) else (Pk.fixN ((bn L).take 8), L.extract 8 L.size, 0)
theorem ext0 (L : ByteArray) : L.extract 0 L.size = L := by
  apply ByteArray.ext
  simp
theorem byte0 (L : ByteArray) (h : 0 < L.size) : (bn L).getD 0 0 = L[0].toNat := by
  rw [List.getD_eq_getElem?_getD, bn_at L 0 h]
  rfl
set_option maxHeartbeats 400000 in
theorem read_any (s : ByteArray) (w : World) :
    Calls Tryz.prog 178 #[.string s] w fun x w' => x = .returned (.pointer (some ⟨w.heap.size, 0, none⟩)) ∧ w' = w.alloc (.cells #[.string s, .int .i64 0] 334) := by
  go_enter Tryz.func178, Tryz.ntmps178
  go_wp2
  go_ret
  exact ⟨rfl, rfl⟩
theorem Rd.new (w : World) (s : ByteArray) : Rd (w.alloc (.cells #[.string s, .int .i64 0] 334)) w.heap.size s 0 := heap_alloc_new w _

theorem box_cell (w : World) (v : Value) (t : TypeId) : (w.alloc (.cells #[v] t)).cell? ⟨w.heap.size, 0, none⟩ = some v := by simp

/- Byte -/
theorem takeByte_any (r e : Nat) (L : ByteArray) (w : World) (hr : Rd w r L e) (hL : L.size ≤ 1000000) :
    Calls Tryz.prog 223 #[.pointer (some ⟨r, 0, none⟩), .func (.func 224) #[] #[]] w fun x w' => x = .returned (.int .u8 ((byteR L e).1 : Int)) ∧ Told w w' r (byteR L e).2.1 (byteR L e).2.2 := by
  by_cases he : e ≠ 0
  · unfold byteR
    rw [if_pos he]
    exact take_err_u8 _ r e L w hr he
  · obtain rfl : e = 0 := by omega
    unfold byteR
    rw [if_neg he]
    by_cases h0 : L.size = 0
    · rw [if_pos h0]
      have h := take_byte r 0 20 0 L w hr hL (Nat.zero_le _) ((byteAhead_none w.heap.size r 0 L L _ h0 (box_cell _ _ _) (hr.alloc _)).mono (by rintro x w' ⟨rfl, rfl⟩; exact ⟨rfl, Told.err (hr.alloc _) 20⟩))
      rw [ext0] at h
      exact h
    · rw [if_neg h0]
      have hp : 0 < L.size := by omega
      have h := take_byte r 1 0 (L[0].toNat) L w hr hL hp ((byteAhead_some _ L _ hp).mono (by rintro x w' ⟨rfl, rfl⟩; exact ⟨rfl, Told.refl (hr.alloc _)⟩))
      rw [byte0 L hp]
      exact h
set_option maxHeartbeats 400000 in
theorem byte_any (r e : Nat) (L : ByteArray) (w : World) (hr : Rd w r L e) (hL : L.size ≤ 1000000) :
    Calls Tryz.prog 204 #[.pointer (some ⟨r, 0, none⟩)] w fun x w' => x = .returned (.int .u8 ((byteR L e).1 : Int)) ∧ Told w w' r (byteR L e).2.1 (byteR L e).2.2 := by
  have HT := hide (takeByte_any r e L w hr hL)
  clear hr
  generalize byteR L e = T at *
  go_enter Tryz.func204, Tryz.ntmps204
  go_wp2_with (go_at_call 223; refine (unhide HT).mono ?_; rintro x w' ⟨rfl, ht⟩)
  go_ret
  exact ⟨rfl, ht⟩
/- Fixed -/
theorem takeFixed_any (r e : Nat) (L : ByteArray) (w : World) (hr : Rd w r L e) (hL : L.size ≤ 1000000) :
    Calls Tryz.prog 225 #[.pointer (some ⟨r, 0, none⟩), .func (.func 226) #[] #[]] w fun x w' => x = .returned (.int .u64 ((fixedR L e).1 : Int)) ∧ Told w w' r (fixedR L e).2.1 (fixedR L e).2.2 := by
  by_cases he : e ≠ 0
  · unfold fixedR
    rw [if_pos he]
    exact take_err_u64 _ r e L w hr he
  · obtain rfl : e = 0 := by omega
    unfold fixedR
    rw [if_neg he]
    by_cases h0 : L.size < 8
    · rw [if_pos h0]
      have h := take_fixed r 0 20 0 L w hr hL (Nat.zero_le _) ((fixedAhead_none w.heap.size r 0 L L _ h0 (box_cell _ _ _) (hr.alloc _)).mono (by rintro x w' ⟨rfl, rfl⟩; exact ⟨rfl, Told.err (hr.alloc _) 20⟩))
      rw [ext0] at h
      exact h
    · rw [if_neg h0]
      exact take_fixed r 8 0 _ L w hr hL (by omega) ((fixedAhead_some _ L _ (by omega)).mono (by rintro x w' ⟨rfl, rfl⟩; exact ⟨rfl, Told.refl (hr.alloc _)⟩))
set_option maxHeartbeats 400000 in
theorem rfixed_any (r e : Nat) (L : ByteArray) (w : World) (hr : Rd w r L e) (hL : L.size ≤ 1000000) :
    Calls Tryz.prog 205 #[.pointer (some ⟨r, 0, none⟩)] w fun x w' => x = .returned (.int .u64 ((fixedR L e).1 : Int)) ∧ Told w w' r (fixedR L e).2.1 (fixedR L e).2.2 := by
  have HT := hide (takeFixed_any r e L w hr hL)
  clear hr
  generalize fixedR L e = T at *
  go_enter Tryz.func205, Tryz.ntmps205
  go_wp2_with (go_at_call 225; refine (unhide HT).mono ?_; rintro x w' ⟨rfl, ht⟩)
  go_ret
  exact ⟨rfl, ht⟩
end Go.Proofs.YtdelobaiicoogaaGreatDoor.L4

/- What the copy of a text is: the same bytes (the library's own contract of that function, laid at this program's numbers). -/
namespace Go.Proofs.YtdelobaiicoogaaGreatDoor.L4
open Go.ChangeShapes Go.WideShapes Go.ChangeAt Go.RowKit Go.Shelf

/-- the shelf's numbers, as this program has them -/
def ren : Ren := ⟨fun n => if n = 25 then 139 else n, fun n => if n = 37 then 140 else if n = 47 then 287 else n, fun n => n⟩
theorem lays : LaysPu.n25 Tryz.prog ren where
  mixed := by kernel_rfl
  f25 := by kernel_rfl
  t0 := by kernel_rfl
  a0 := fun _ => by kernel_rfl
  z0 := fun _ => by kernel_rfl
  v0 := fun _ => by kernel_rfl
  i0 := by kernel_rfl
  t3 := by kernel_rfl
  a3 := fun _ => by kernel_rfl
  z3 := fun _ => by kernel_rfl
  v3 := fun _ => by kernel_rfl
  i3 := by kernel_rfl
  t4 := by kernel_rfl
  a4 := fun _ => by kernel_rfl
  z4 := fun _ => by kernel_rfl
  v4 := fun _ => by kernel_rfl
  i4 := by kernel_rfl
  t5 := by kernel_rfl
  a5 := fun _ => by kernel_rfl
  z5 := fun _ => by kernel_rfl
  v5 := fun _ => by kernel_rfl
  i5 := by kernel_rfl
  t9 := by kernel_rfl
  a9 := fun _ => by kernel_rfl
  z9 := fun _ => by kernel_rfl
  v9 := fun _ => by kernel_rfl
  i9 := by kernel_rfl
  t37 := by kernel_rfl
  a37 := fun _ => by kernel_rfl
  z37 := fun _ => by kernel_rfl
  v37 := fun _ => by kernel_rfl
  i37 := by kernel_rfl
  t47 := by kernel_rfl
  a47 := fun _ => by kernel_rfl
  z47 := fun _ => by kernel_rfl
  v47 := fun _ => by kernel_rfl
  i47 := by kernel_rfl

theorem sclone_any (s : ByteArray) (w : World) (hlim : s.size ≤ 1000000) :
    Calls Tryz.prog 139 #[.string s] w fun e w' => e = .returned (.string s) ∧ Below w.heap.size w w' :=
  AnyPu.stringslite_Clone lays s w (by omega)

set_option maxHeartbeats 400000 in
theorem clone_any (s : ByteArray) (w : World) (hlim : s.size ≤ 1000000) :
    Calls Tryz.prog 106 #[.string s] w fun e w' => e = .returned (.string s) ∧ Below w.heap.size w w' := by
  go_enter Tryz.func106, Tryz.ntmps106
  go_wp2_with (go_at_call 139; refine (sclone_any _ _ hlim).mono ?_; rintro e w' ⟨rfl, hb⟩)
  go_ret
  exact ⟨rfl, hb⟩
end Go.Proofs.YtdelobaiicoogaaGreatDoor.L4

/- A reader of a text at a place, beside the result's variable: what blockOf does step by step. -/
namespace Go.Proofs.YtdelobaiicoogaaGreatDoor.L4
open Go.ChangeShapes Go.WideShapes Go.ChangeAt Go.RowKit

theorem bn_extract (s : ByteArray) (a b : Nat) : bn (s.extract a b) = ((bn s).drop a).take (b - a) := by
  unfold bn
  rw [Lib.extract_data, List.map_take, List.map_drop]
theorem bn_from (s : ByteArray) (k : Nat) : bn (s.extract k s.size) = (bn s).drop k := by
  rw [bn_extract, List.take_of_length_le (by rw [List.length_drop, bn_length]; exact Nat.le_refl _)]
theorem size_from (s : ByteArray) (k : Nat) : (s.extract k s.size).size = s.size - k := by rw [← bn_length, bn_from, List.length_drop, bn_length]
theorem from_from (s : ByteArray) (k j : Nat) : (s.extract k s.size).extract j (s.extract k s.size).size = s.extract (k + j) s.size := by
  apply bn_inj
  rw [bn_from, bn_from, bn_from, List.drop_drop]

theorem getD_lt {l : List Nat} (hl : ∀ b ∈ l, b < 256) (k : Nat) : l.getD k 0 < 256 := by
  rw [List.getD_eq_getElem?_getD]
  by_cases h : k < l.length
  · rw [List.getElem?_eq_getElem h]; exact hl _ (List.getElem_mem h)
  · rw [List.getElem?_eq_none (by omega)]; decide
theorem byteR_at (U : ByteArray) (k : Nat) (hk : k < U.size) : byteR (U.extract k U.size) 0 = ((bn U).getD k 0, U.extract (k + 1) U.size, 0) := by
  unfold byteR
  rw [if_neg (by simp), if_neg (by rw [size_from]; omega), from_from, bn_from]
  simp [List.getD_eq_getElem?_getD, List.getElem?_drop]
theorem fixedR_at (U : ByteArray) (k : Nat) (hk : k + 8 ≤ U.size) : fixedR (U.extract k U.size) 0 = (Pk.fixN (((bn U).drop k).take 8), U.extract (k + 8) U.size, 0) := by
  unfold fixedR
  rw [if_neg (by simp), if_neg (by rw [size_from]; omega), from_from, bn_from]

/-- the result's variable is as it began, and the reader stands there -/
def At (W w : World) (r : Nat) (U : ByteArray) (k : Nat) : Prop :=
  Below W.heap.size W w ∧ w.heap[W.heap.size]? = some (.cells #[.int .i64 0, .int .i64 0, .string ⟨#[]⟩] 90 (0, 0)) ∧ Rd w r (U.extract k U.size) 0 ∧ W.heap.size < r
theorem At.then {W w w' : World} {r : Nat} {U : ByteArray} {k : Nat} (h : At W w r U k) (hb : Below w.heap.size w w') : At W w' r U k := by
  obtain ⟨h1, h2, h3, h4⟩ := h
  exact ⟨below_then h1 hb, (hb.block _ (Array.getElem?_eq_some_iff.1 h2).1).trans h2, h3.below hb, h4⟩
theorem At.told {W w w' : World} {r : Nat} {U : ByteArray} {k j : Nat} (h : At W w r U k) (t : Told w w' r (U.extract j U.size) 0) : At W w' r U j := by
  obtain ⟨h1, h2, h3, h4⟩ := h
  exact ⟨h1.grown t.1 h1.size (fun x hx => by cases hx; omega), (t.1.block _ (Array.getElem?_eq_some_iff.1 h2).1 (fun e => by cases e; omega)).trans h2, t.2, h4⟩

theorem read_step (W : World) (U : ByteArray) :
    Calls Tryz.prog 178 #[.string (U.extract 2 U.size)] (W.alloc (.cells #[.int .i64 0, .int .i64 0, .string ⟨#[]⟩] 90)) fun e w' => ∃ r, e = .returned (.pointer (some ⟨r, 0, none⟩)) ∧ At W w' r U 2 := by
  refine (read_any _ _).mono ?_
  rintro e w' ⟨rfl, rfl⟩
  refine ⟨_, rfl, ((Below.refl _ _).alloc (Nat.le_refl _) _).alloc (by simp) _, ?_, Rd.new _ _, by simp⟩
  rw [Below.heap_alloc _ _ _ (by simp)]
  exact heap_alloc_new W _
theorem read_step' (W : World) (U L : ByteArray) (hL : L = U.extract 2 U.size) :
    Calls Tryz.prog 178 #[.string L] (W.alloc (.cells #[.int .i64 0, .int .i64 0, .string ⟨#[]⟩] 90)) fun e w' => ∃ r, e = .returned (.pointer (some ⟨r, 0, none⟩)) ∧ At W w' r U 2 := by
  subst hL
  exact read_step W U
theorem byte_step {W w : World} {r : Nat} {U : ByteArray} {k j x : Nat} (h : At W w r U k) (hk : k < U.size) (hj : j = k + 1) (hx : (bn U).getD k 0 = x) (hU : U.size ≤ 1000000) :
    Calls Tryz.prog 204 #[.pointer (some ⟨r, 0, none⟩)] w fun e w' => e = .returned (.int .u8 (x : Int)) ∧ At W w' r U j := by
  subst hj
  have := byte_any r 0 _ w h.2.2.1 (by rw [size_from]; omega)
  rw [byteR_at U k hk, hx] at this
  refine this.mono ?_
  rintro e w' ⟨rfl, ht⟩
  exact ⟨rfl, h.told ht⟩
theorem fixed_step' {W w : World} {r : Nat} {U : ByteArray} {k x : Nat} (h : At W w r U k) (hk : k + 8 ≤ U.size) (hx : Pk.fixN (((bn U).drop k).take 8) = x) (hU : U.size ≤ 1000000) :
    Calls Tryz.prog 205 #[.pointer (some ⟨r, 0, none⟩)] w fun e w' => e = .returned (.int .u64 (x : Int)) ∧ At W w' r U (k + 8) := by
  have := rfixed_any r 0 _ w h.2.2.1 (by rw [size_from]; omega)
  rw [fixedR_at U k hk, hx] at this
  refine this.mono ?_
  rintro e w' ⟨rfl, ht⟩
  exact ⟨rfl, h.told ht⟩
theorem trim_step {W w : World} {r : Nat} {U : ByteArray} {k : Nat} (h : At W w r U k) (s : ByteArray) (hs : s.size ≤ 9223372036854775807) :
    Calls Tryz.prog 206 #[.string s, .string ⟨#[0]⟩] w fun e w' => e = .returned (.string ⟨(Lib.trimB s.data.toList 0).toArray⟩) ∧ At W w' r U k := by
  refine (trim_any s w hs).mono ?_
  rintro e w' ⟨rfl, rfl | rfl⟩
  · exact ⟨rfl, h⟩
  · exact ⟨rfl, h.then (Below.refl _ _).drew⟩
theorem clone_step {W w : World} {r : Nat} {U : ByteArray} {k : Nat} (h : At W w r U k) (s : ByteArray) (hs : s.size ≤ 1000000) :
    Calls Tryz.prog 106 #[.string s] w fun e w' => e = .returned (.string s) ∧ At W w' r U k := by
  refine (clone_any s w hs).mono ?_
  rintro e w' ⟨rfl, hb⟩
  exact ⟨rfl, h.then hb⟩

theorem or_i64 (n b : Nat) (hn : n < 256) (hb : b < 256) : bits .or .i64 ((n : Int) * 256) (b : Int) = ((n * 256 + b : Nat) : Int) := by
  have e := Nat.two_pow_add_eq_or_of_lt (i := 8) (b := b) (by omega) n
  have e2 : n * 256 ||| b = n * 256 + b := by
    rw [show (2 : Nat) ^ 8 = 256 by rfl] at e
    rw [Nat.mul_comm n 256]
    exact e.symm
  have h : bits .or .i64 ((n * 256 : Nat) : Int) (b : Int) = ((n * 256 + b : Nat) : Int) := by
    show IntKind.i64.wrap ((BitVec.ofInt 64 ((n * 256 : Nat) : Int) ||| BitVec.ofInt 64 (b : Int)).toNat : Int) = _
    rw [BitVec.toNat_or, ofInt_u64 _ (by omega), ofInt_u64 _ (by omega), e2, IntKind.wrap_i64]
    omega
  rw [← h]
  simp

/-- THE DOCUMENT's: the block of the bytes ahead of the sum, and of a sector -/
def blockR (U : ByteArray) : Int × Int × ByteArray × Nat :=
  if (bn U).take 2 = [67, 80] ∧ Blk.lenOf (bn U) ≤ 1007 ∧ Blk.genOf (bn U) ≤ 1152921504606846976 ∧ ∀ x ∈ (bn U).drop (13 + Blk.lenOf (bn U)), x = 0
  then (((bn U).getD 2 0 : Nat), (Blk.genOf (bn U) : Nat), U.extract 13 (13 + Blk.lenOf (bn U)), 0) else (0, 0, ⟨#[]⟩, 21)
def openR (S : ByteArray) : Int × Int × ByteArray × Nat :=
  if S.size ≠ 1024 then (0, 0, ⟨#[]⟩, 32) else if (bn S).drop 1020 ≠ Blk.le4 (Crc.sum ((bn S).take 1020)) then (0, 0, ⟨#[]⟩, 40) else blockR (S.extract 0 1020)
/-- what an answer of Open is -/
def opened (T : Int × Int × ByteArray × Nat) : Value := .tuple #[.agg #[.int .i64 T.1, .int .i64 T.2.1, .string T.2.2.1], .int .i64 (T.2.2.2 : Nat)]
theorem At.cells {W w : World} {r : Nat} {U : ByteArray} {k : Nat} (h : At W w r U k) : w.cell? ⟨W.heap.size, 0, none⟩ = some (.int .i64 0) ∧ w.cell? ⟨W.heap.size, 1, none⟩ = some (.int .i64 0) ∧ w.cell? ⟨W.heap.size, 2, none⟩ = some (.string ⟨#[]⟩) ∧ ∀ i, w.frozen? ⟨W.heap.size, i, none⟩ = false := by
  have h2 := h.2.1
  refine ⟨?_, ?_, ?_, fun i => ?_⟩
  · simp [World.cell?, h2]
  · simp [World.cell?, h2]
  · simp [World.cell?, h2]
  · simp [World.frozen?, h2]
end Go.Proofs.YtdelobaiicoogaaGreatDoor.L4
