/- Texts that the proof needs, one behind the other. -/
import Derived.Test.YtlmgmdnmghgkbaaGreatDoorMaa
import Derived.Shelf.Strings.Trim
import Derived.Shelf.Strings.Prefix
import Derived.Shelf.Strings.Repeat
import Derived.Deep.RegionHeld3
import Derived.BigQuiet
import Derived.Laws.MakeOwn
import Derived.Laws.OwnMore
import Derived.WalkMore
import Derived.RegionTactic
import Derived.ChangeAlike
import Derived.Shelf.Pu.Clone
import Derived.Lib.Strings
import Derived.Test.YtlmgmdnmghgkbaaGreatDoorRows
import Derived.WalkKit
import Derived.ProofKit
import Derived.OpenShut
import Derived.WalkLawsBesides
import Derived.WalkSpells
import Derived.Outline
import Derived.Deep.AppendLies
import Derived.Laws.BytesArg
import Derived.BigFrame
/- What three calls of Go's library do: Trim at one byte, HasPrefix, Repeat: the library's own contracts, laid at this program's numbers. -/
namespace Go.Proofs.YtlmgmdnmghgkbaaGreatDoor.L4
open Go.Shelf
def lays160_ren : Go.Shelf.Ren := ⟨fun | 160 => 215 | 232 => 240 | 231 => 239 | 227 => 241 | 234 => 243 | 233 => 242 | 236 => 245 | 235 => 244 | 228 => 257 | 271 => 260 | 151 => 259 | 197 => 258 | 120 => 271 | 152 => 270 | 260 => 269 | 137 => 277 | 119 => 278 | 224 => 279 | 225 => 280 | 217 => 285 | 266 => 286 | n => n, fun | 9 => 9 | 4 => 4 | 3 => 3 | 5 => 5 | 117 => 357 | 116 => 356 | 0 => 0 | 124 => 360 | 21 => 21 | 105 => 371 | 46 => 189 | 119 => 384 | 139 => 387 | 138 => 386 | n => n, fun | 3 => 2 | 4 => 3 | n => n⟩
theorem lays160 : Go.Proofs.Lays.n160 Tryz.prog lays160_ren := {
  mixed := by kernel_rfl
  f119 := Tryz.func278.trans (congrArg some (by kernel_rfl))
  f120 := Tryz.func271.trans (congrArg some (by kernel_rfl))
  f137 := Tryz.func277.trans (congrArg some (by kernel_rfl))
  f151 := Tryz.func259.trans (congrArg some (by kernel_rfl))
  f152 := Tryz.func270.trans (congrArg some (by kernel_rfl))
  f160 := Tryz.func215.trans (congrArg some (by kernel_rfl))
  f197 := Tryz.func258.trans (congrArg some (by kernel_rfl))
  f217 := Tryz.func285.trans (congrArg some (by kernel_rfl))
  f224 := Tryz.func279.trans (congrArg some (by kernel_rfl))
  f225 := Tryz.func280.trans (congrArg some (by kernel_rfl))
  f227 := Tryz.func241.trans (congrArg some (by kernel_rfl))
  f228 := Tryz.func257.trans (congrArg some (by kernel_rfl))
  f231 := Tryz.func239.trans (congrArg some (by kernel_rfl))
  f232 := Tryz.func240.trans (congrArg some (by kernel_rfl))
  f233 := Tryz.func242.trans (congrArg some (by kernel_rfl))
  f234 := Tryz.func243.trans (congrArg some (by kernel_rfl))
  f235 := Tryz.func244.trans (congrArg some (by kernel_rfl))
  f236 := Tryz.func245.trans (congrArg some (by kernel_rfl))
  f260 := Tryz.func269.trans (congrArg some (by kernel_rfl))
  f266 := Tryz.func286.trans (congrArg some (by kernel_rfl))
  f271 := Tryz.func260.trans (congrArg some (by kernel_rfl))
  t0 := Tryz.underlying0
  a0 := Tryz.isAgg0
  z0 := Tryz.sizeOf0
  v0 := Tryz.zeroValue0
  t3 := Tryz.underlying3
  a3 := Tryz.isAgg3
  z3 := Tryz.sizeOf3
  v3 := Tryz.zeroValue3
  t4 := Tryz.underlying4
  a4 := Tryz.isAgg4
  z4 := Tryz.sizeOf4
  v4 := Tryz.zeroValue4
  t5 := Tryz.underlying5
  a5 := Tryz.isAgg5
  z5 := Tryz.sizeOf5
  v5 := Tryz.zeroValue5
  t9 := Tryz.underlying9
  a9 := Tryz.isAgg9
  z9 := Tryz.sizeOf9
  v9 := Tryz.zeroValue9
  t21 := Tryz.underlying21
  a21 := Tryz.isAgg21
  z21 := Tryz.sizeOf21
  v21 := Tryz.zeroValue21
  t46 := Tryz.underlying189
  a46 := Tryz.isAgg189
  z46 := Tryz.sizeOf189
  v46 := Tryz.zeroValue189
  t105 := Tryz.underlying371
  a105 := Tryz.isAgg371
  z105 := Tryz.sizeOf371
  v105 := Tryz.zeroValue371
  t116 := Tryz.underlying356
  a116 := Tryz.isAgg356
  z116 := Tryz.sizeOf356
  t117 := Tryz.underlying357
  a117 := Tryz.isAgg357
  z117 := Tryz.sizeOf357
  v117 := Tryz.zeroValue357
  t119 := Tryz.underlying384
  a119 := Tryz.isAgg384
  z119 := Tryz.sizeOf384
  t124 := Tryz.underlying360
  a124 := Tryz.isAgg360
  z124 := Tryz.sizeOf360
  v124 := Tryz.zeroValue360
  t138 := Tryz.underlying386
  a138 := Tryz.isAgg386
  z138 := Tryz.sizeOf386
  v138 := Tryz.zeroValue386
  t139 := Tryz.underlying387
  a139 := Tryz.isAgg387
  z139 := Tryz.sizeOf387
  v139 := Tryz.zeroValue387
  g3 := by kernel_rfl
  g4 := by kernel_rfl }
def lays99_ren : Go.Shelf.Ren := ⟨fun | 99 => 205 | 206 => 231 | n => n, fun | 9 => 9 | 4 => 4 | 3 => 3 | n => n, fun | n => n⟩
theorem lays99 : Go.Proofs.Lays.n99 Tryz.prog lays99_ren := {
  mixed := by kernel_rfl
  f99 := Tryz.func205.trans (congrArg some (by kernel_rfl))
  f206 := Tryz.func231.trans (congrArg some (by kernel_rfl))
  t3 := Tryz.underlying3
  a3 := Tryz.isAgg3
  z3 := Tryz.sizeOf3
  v3 := Tryz.zeroValue3
  t4 := Tryz.underlying4
  a4 := Tryz.isAgg4
  z4 := Tryz.sizeOf4
  v4 := Tryz.zeroValue4
  t9 := Tryz.underlying9
  a9 := Tryz.isAgg9
  z9 := Tryz.sizeOf9
  v9 := Tryz.zeroValue9 }
def lays105_ren : Go.Shelf.Ren := ⟨fun | 105 => 170 | 212 => 204 | 99 => 205 | 165 => 206 | 166 => 207 | 170 => 208 | 169 => 209 | 263 => 229 | 264 => 230 | 206 => 231 | 240 => 232 | 241 => 233 | 276 => 253 | 277 => 254 | n => n, fun | 9 => 9 | 3 => 3 | 4 => 4 | 20 => 20 | 0 => 0 | 46 => 189 | 109 => 316 | 5 => 5 | 72 => 320 | 76 => 323 | 51 => 240 | 146 => 344 | 53 => 239 | 148 => 346 | 70 => 318 | 37 => 68 | 75 => 322 | 127 => 348 | 164 => 363 | 80 => 106 | n => n, fun | n => n⟩
theorem lays105 : Go.Proofs.Lays.n105 Tryz.prog lays105_ren := {
  mixed := by kernel_rfl
  f99 := Tryz.func205.trans (congrArg some (by kernel_rfl))
  f105 := Tryz.func170.trans (congrArg some (by kernel_rfl))
  f165 := Tryz.func206.trans (congrArg some (by kernel_rfl))
  f166 := Tryz.func207.trans (congrArg some (by kernel_rfl))
  f169 := Tryz.func209.trans (congrArg some (by kernel_rfl))
  f170 := Tryz.func208.trans (congrArg some (by kernel_rfl))
  f206 := Tryz.func231.trans (congrArg some (by kernel_rfl))
  f212 := Tryz.func204.trans (congrArg some (by kernel_rfl))
  f240 := Tryz.func232.trans (congrArg some (by kernel_rfl))
  f241 := Tryz.func233.trans (congrArg some (by kernel_rfl))
  f263 := Tryz.func229.trans (congrArg some (by kernel_rfl))
  f264 := Tryz.func230.trans (congrArg some (by kernel_rfl))
  f276 := Tryz.func253.trans (congrArg some (by kernel_rfl))
  f277 := Tryz.func254.trans (congrArg some (by kernel_rfl))
  t0 := Tryz.underlying0
  a0 := Tryz.isAgg0
  z0 := Tryz.sizeOf0
  v0 := Tryz.zeroValue0
  t3 := Tryz.underlying3
  a3 := Tryz.isAgg3
  z3 := Tryz.sizeOf3
  v3 := Tryz.zeroValue3
  t4 := Tryz.underlying4
  a4 := Tryz.isAgg4
  z4 := Tryz.sizeOf4
  v4 := Tryz.zeroValue4
  t5 := Tryz.underlying5
  a5 := Tryz.isAgg5
  z5 := Tryz.sizeOf5
  v5 := Tryz.zeroValue5
  t9 := Tryz.underlying9
  a9 := Tryz.isAgg9
  z9 := Tryz.sizeOf9
  v9 := Tryz.zeroValue9
  t20 := Tryz.underlying20
  a20 := Tryz.isAgg20
  z20 := Tryz.sizeOf20
  v20 := Tryz.zeroValue20
  t37 := Tryz.underlying68
  a37 := Tryz.isAgg68
  z37 := Tryz.sizeOf68
  v37 := Tryz.zeroValue68
  t46 := Tryz.underlying189
  a46 := Tryz.isAgg189
  z46 := Tryz.sizeOf189
  v46 := Tryz.zeroValue189
  t51 := Tryz.underlying240
  a51 := Tryz.isAgg240
  z51 := Tryz.sizeOf240
  v51 := Tryz.zeroValue240
  t53 := Tryz.underlying239
  a53 := Tryz.isAgg239
  z53 := Tryz.sizeOf239
  v53 := Tryz.zeroValue239
  t70 := Tryz.underlying318
  a70 := Tryz.isAgg318
  z70 := Tryz.sizeOf318
  v70 := Tryz.zeroValue318
  t72 := Tryz.underlying320
  a72 := Tryz.isAgg320
  z72 := Tryz.sizeOf320
  v72 := Tryz.zeroValue320
  t75 := Tryz.underlying322
  a75 := Tryz.isAgg322
  z75 := Tryz.sizeOf322
  v75 := Tryz.zeroValue322
  t76 := Tryz.underlying323
  a76 := Tryz.isAgg323
  z76 := Tryz.sizeOf323
  v76 := Tryz.zeroValue323
  t109 := Tryz.underlying316
  a109 := Tryz.isAgg316
  z109 := Tryz.sizeOf316
  v109 := Tryz.zeroValue316
  t127 := Tryz.underlying348
  a127 := Tryz.isAgg348
  z127 := Tryz.sizeOf348
  v127 := Tryz.zeroValue348
  t146 := Tryz.underlying344
  a146 := Tryz.isAgg344
  z146 := Tryz.sizeOf344
  v146 := Tryz.zeroValue344
  t148 := Tryz.underlying346
  a148 := Tryz.isAgg346
  z148 := Tryz.sizeOf346
  v148 := Tryz.zeroValue346
  t164 := Tryz.underlying363
  a164 := Tryz.isAgg363
  z164 := Tryz.sizeOf363
  v164 := Tryz.zeroValue363 }
theorem Builder_Extra_105 : Builder.Extra Tryz.prog lays105_ren := {
  sizeBuilder := by kernel_rfl
  liesBuilder := by kernel_rfl
  t5 := Tryz.underlying5
  a5 := Tryz.isAgg5
  z5 := Tryz.sizeOf5
  v5 := Tryz.zeroValue5
  infoByte := by kernel_rfl
  cellsByte := by kernel_rfl
  sizeByte := by kernel_rfl
  neB5 := by decide }
open Go.RowKit in
theorem trim_any (s : ByteArray) (w : World) (hs : s.size ≤ 9223372036854775807) :
    Calls Tryz.prog 215 #[.string s, .string ⟨#[0]⟩] w fun e w' => e = .returned (.string ⟨(Lib.trimB s.data.toList 0).toArray⟩) ∧ (w' = w ∨ w' = w.drew) := Any.strings_Trim_one lays160 s 0 (by decide) w hs
open Go.RowKit Go.Lib in
theorem prefix_any (s p : ByteArray) (w : World) :
    Calls Tryz.prog 205 #[.string s, .string p] w fun e w' => e = .returned (.bool (Lib.hasPrefix s.data.toList p.data.toList)) ∧ w' = w := Any.strings_HasPrefix lays99 s p w
open Go.RowKit Go.Lib in
theorem repeat_any (s : ByteArray) (c : Nat) (w : World) (hc : c ≤ 9223372036854775807) (hlen : s.size * c ≤ 140737488355328) :
    Calls Tryz.prog 170 #[.string s, .int .i64 c] w fun e w' => e = .returned (.string ⟨(Lib.repeatL s.data.toList c).toArray⟩) ∧ Below w.heap.size w w' := Any.strings_Repeat lays105 Builder_Extra_105 s c w hc hlen

theorem repeatL_one (x : UInt8) : ∀ n, Lib.repeatL [x] n = List.replicate n x
  | 0 => rfl
  | n + 1 => by
    unfold Lib.repeatL
    rw [repeatL_one x n]
    rfl
/-- so many zeros -/
def zeros (n : Nat) : ByteArray := strOf (List.replicate n 0)
theorem zeros_data (n : Nat) : (zeros n).data.toList = List.replicate n 0 := by
  unfold zeros strOf
  rw [strOfNums_data, List.map_map, List.map_replicate]
  rfl
open Go.RowKit in
theorem zeros_any (n : Nat) (w : World) (hn : n ≤ 1007) : Calls Tryz.prog 170 #[.string ⟨#[0]⟩, .int .i64 n] w fun e w' => e = .returned (.string (zeros n)) ∧ Below w.heap.size w w' := by
  refine (repeat_any ⟨#[0]⟩ n w (by omega) (by show 1 * n ≤ _; omega)).mono ?_
  rintro e w' ⟨rfl, hb⟩
  refine ⟨?_, hb⟩
  show Ending.returned (.string ⟨(Lib.repeatL [0] n).toArray⟩) = _
  rw [repeatL_one]
  congr 2
  apply ByteArray.ext
  rw [← zeros_data]

theorem dw_nil (l : List UInt8) : l.dropWhile (· == 0) = [] ↔ ∀ x ∈ l, x = 0 := by
  induction l with
  | nil => simp
  | cons a l ih =>
    by_cases h : a = 0
    · subst h
      simp [ih]
    · have hb : (a == 0) = false := by simpa using h
      simp [hb, h]
/-- nothing is left of it just where all is zero -/
theorem trim_nil (l : List UInt8) : Lib.trimB l 0 = [] ↔ ∀ x ∈ l, x = 0 := by
  unfold Lib.trimB Lib.trimLeftB Lib.trimRightB
  rw [dw_nil]
  constructor
  · intro h x hx
    by_cases hz : l.reverse.dropWhile (· == 0) = []
    · exact (dw_nil _).1 hz x (List.mem_reverse.2 hx)
    · exfalso
      have hh := List.head_dropWhile_not (p := (· == 0)) hz
      have := h _ (List.mem_reverse.2 (List.head_mem hz))
      rw [this] at hh
      exact absurd hh (by decide)
  · intro h
    have : l.reverse.dropWhile (· == 0) = [] := (dw_nil _).2 (fun x hx => h x (List.mem_reverse.1 hx))
    rw [this]
    simp
end Go.Proofs.YtlmgmdnmghgkbaaGreatDoor.L4

/- What both Wraps share: the block in its box, the sector as a text, steps of a statement that leaves its order open. -/
namespace Go.Proofs.YtlmgmdnmghgkbaaGreatDoor.L4
open Go.ChangeShapes Go.WideShapes Go.ChangeAt Go.RowKit

/-- THE DOCUMENT's: the sector, or the error -/
def wrapR (K G : Int) (P : ByteArray) : ByteArray × Nat :=
  if K < 0 ∨ 255 < K ∨ G < 0 ∨ 1152921504606846976 < G then (⟨#[]⟩, 1) else if 1007 < P.size then (⟨#[]⟩, 61) else (strOf (Blk.sector K.toNat G.toNat (bn P)), 0)
theorem wrapR_arg {K G : Int} {P : ByteArray} (h : K < 0 ∨ 255 < K ∨ G < 0 ∨ 1152921504606846976 < G) : wrapR K G P = (⟨#[]⟩, 1) := by unfold wrapR; rw [if_pos h]
theorem wrapR_big {K G : Int} {P : ByteArray} (h : ¬ (K < 0 ∨ 255 < K ∨ G < 0 ∨ 1152921504606846976 < G)) (hp : 1007 < P.size) : wrapR K G P = (⟨#[]⟩, 61) := by unfold wrapR; rw [if_neg h, if_pos hp]
theorem wrapR_ok {K G : Int} {P : ByteArray} (h : ¬ (K < 0 ∨ 255 < K ∨ G < 0 ∨ 1152921504606846976 < G)) (hp : ¬ 1007 < P.size) : wrapR K G P = (strOf (Blk.sector K.toNat G.toNat (bn P)), 0) := by unfold wrapR; rw [if_neg h, if_neg hp]

theorem three_conv (w : World) (a b c : Int) :
    (convert 68 9 (.slice (some ⟨w.heap.size, 0, none⟩) 3 3)).run Tryz.prog (w.alloc (.cells #[.int .u8 a, .int .u8 b, .int .u8 c] 5)) = .ok (.string (strOfNums [a, b, c])) (w.alloc (.cells #[.int .u8 a, .int .u8 b, .int .u8 c] 5)) :=
  run_convert_bytes_arg _ 68 5 Tryz.underlying68 Tryz.underlying5 w.heap.size 0 3 3 [a, b, c] (by simp) (fun i hi => by
    have e : i = 0 ∨ i = 1 ∨ i = 2 := by omega
    rcases e with rfl | rfl | rfl <;> simp) 9 Tryz.underlying9

theorem below_then {W w1 w2 : World} (h : Below W.heap.size W w1) (k : Below w1.heap.size w1 w2) : Below W.heap.size W w2 := h.trans (k.mono h.size)
/-- what a region knows: nothing old has turned, and the block lies in its box -/
def Box (w : World) (x y z : Value) (w' : World) : Prop := Below w.heap.size w w' ∧ w'.cell? ⟨w.heap.size, 0, none⟩ = some x ∧ w'.cell? ⟨w.heap.size, 1, none⟩ = some y ∧ w'.cell? ⟨w.heap.size, 2, none⟩ = some z
theorem Box.new (w : World) (x y z : Value) : Box w x y z (w.alloc (.cells #[x, y, z] 161)) := ⟨(Below.refl _ _).alloc (Nat.le_refl _) _, by simp, by simp, by simp⟩
theorem Box.then {w : World} {x y z : Value} {w1 w2 : World} (h : Box w x y z w1) (hb : Below w1.heap.size w1 w2) : Box w x y z w2 := by
  obtain ⟨h1, h2, h3, h4⟩ := h
  exact ⟨below_then h1 hb, (hb.cell (World.block_lt_of_cell? w1 _ h2)).trans h2, (hb.cell (World.block_lt_of_cell? w1 _ h3)).trans h3, (hb.cell (World.block_lt_of_cell? w1 _ h4)).trans h4⟩
theorem Box.drew {w : World} {x y z : Value} {w1 : World} (h : Box w x y z w1) : Box w x y z w1.drew := h.then (Below.refl _ _).drew
theorem Box.alloc {w : World} {x y z : Value} {w1 : World} (h : Box w x y z w1) (o : Obj) : Box w x y z (w1.alloc o) := h.then ((Below.refl _ _).alloc (Nat.le_refl _) o)

theorem three_conv_drew (w : World) (a b c : Int) :
    (convert 68 9 (.slice (some ⟨w.heap.size, 0, none⟩) 3 3)).run Tryz.prog (w.alloc (.cells #[.int .u8 a, .int .u8 b, .int .u8 c] 5)).drew = .ok (.string (strOfNums [a, b, c])) (w.alloc (.cells #[.int .u8 a, .int .u8 b, .int .u8 c] 5)).drew :=
  three_conv w.drew a b c
theorem conv_kept {w w2 : World} {a b c : Int} (hb : Below ((w.alloc (.cells #[.int .u8 a, .int .u8 b, .int .u8 c] 5)).drew).heap.size (w.alloc (.cells #[.int .u8 a, .int .u8 b, .int .u8 c] 5)).drew w2) :
    (convert 68 9 (.slice (some ⟨w.heap.size, 0, none⟩) 3 3)).run Tryz.prog w2 = .ok (.string (strOfNums [a, b, c])) w2 :=
  run_convert_bytes_arg _ 68 5 Tryz.underlying68 Tryz.underlying5 w.heap.size 0 3 3 [a, b, c] (by simp) (fun i hi => by
    rw [hb.cell (p := ⟨w.heap.size, 0 + i, none⟩) (by simp)]
    have e : i = 0 ∨ i = 1 ∨ i = 2 := by omega
    rcases e with rfl | rfl | rfl <;> simp) 9 Tryz.underlying9
theorem takeY {P : Program} {md : Region.Mode} {ops : Array Oper} {Q : Exit → Act → World → Prop} {S : World → Prop} {oi : Oper} {fuel : Nat} {listed : Array Bool} {a : Act} {w : World} (i : Nat) (d : Option Tmp) (v : Value) (hi : ops[i]? = some oi) (hd : oi.dst = d)
    (hs : Region.noSelect ops = true) (hf : Region.free md ops listed i = true) (hr : (Region.ready md ops listed).contains i = true)
    (hQ : ∀ c a w, Q (.panic c) (a.put oi.dst v) w → Q (.panic c) a w) (hw : Region.wanted oi (yielded ops a.tmps) = true) (hy : ∀ w, S w → (execOp a.eval oi).run P w = .ok (.value v) w) (hS : S w)
    (h : wpAnyH P md ops Q S fuel (listed.setIfInBounds i true) (a.put d v) w) : wpAnyH P md ops Q S (fuel + 1) listed a w := by
  subst hd
  exact wpAnyH_take hi hs hf hr hQ (Or.inl ⟨hw, hy⟩) hS h
theorem add_run (s t : ByteArray) (h : s.size + t.size ≤ 1000000) (w : World) : (Op.stringOp .add s t).run Tryz.prog w = .ok (.string (s ++ t)) w := by
  simp [Op.stringOp]
  omega

theorem zeros_size (n : Nat) : (zeros n).size = n := by unfold zeros; rw [strOf_size, List.length_replicate]
theorem bn_zeros (n : Nat) : bn (zeros n) = List.replicate n 0 := bn_strOf _ (fun b hb => by rw [(List.mem_replicate.1 hb).2]; decide)
theorem Tab.below {w w' : World} (h : Tab w) (hb : Below w.heap.size w w') : Tab w' := fun i hi =>
  (hb.cell (World.block_lt_of_cell? w ⟨0, i, none⟩ (h i hi))).trans (h i hi)
theorem text_size (k g : Nat) (P : ByteArray) : (⟨#[67, 80]⟩ ++ strOfNums [(k : Int), (P.size : Int) / 256, (P.size : Int) % 256] ++ strOf (Pk.fixL g)).size = 13 := by
  rw [ByteArray.size_append, ByteArray.size_append, strOfNums_size, strOf_size]
  rfl
theorem body_text (k g : Nat) (P : ByteArray) (hk : k ≤ 255) (hp : P.size ≤ 1007) :
    bn (⟨#[67, 80]⟩ ++ strOfNums [(k : Int), (P.size : Int) / 256, (P.size : Int) % 256] ++ strOf (Pk.fixL g) ++ (P ++ zeros (1007 - P.size))) = Blk.body k g (bn P) := by
  have e : strOfNums [(k : Int), (P.size : Int) / 256, (P.size : Int) % 256] = strOf [k, P.size / 256, P.size % 256] := rfl
  have e1 : bn ⟨#[67, 80]⟩ = [67, 80] := rfl
  rw [bn_append, bn_append, bn_append, bn_append, e, e1, bn_zeros, bn_strOf _ (Pk.fixL_lt g), bn_strOf [k, P.size / 256, P.size % 256] (fun b hb => by simp at hb; omega)]
  unfold Blk.body Blk.head
  rw [bn_length]
  rfl
theorem sector_text (k g : Nat) (P : ByteArray) (hk : k ≤ 255) (hp : P.size ≤ 1007) :
    (⟨#[67, 80]⟩ ++ strOfNums [(k : Int), (P.size : Int) / 256, (P.size : Int) % 256] ++ strOf (Pk.fixL g) ++ (P ++ zeros (1007 - P.size))) ++ strOf (Blk.le4 (Crc.sum (bn (⟨#[67, 80]⟩ ++ strOfNums [(k : Int), (P.size : Int) / 256, (P.size : Int) % 256] ++ strOf (Pk.fixL g) ++ (P ++ zeros (1007 - P.size)))))) = strOf (Blk.sector k g (bn P)) := by
  have h := body_text k g P hk hp
  have h2 := congrArg strOf h
  rw [strOf_bn] at h2
  rw [h, h2, ← strOf_append]
  rfl
theorem ret2_si {k : IntKind} {s t : ByteArray} {a : Int} (h : s = t) : Ending.returned (.tuple #[.string s, .int k a]) = .returned (.tuple #[.string t, .int k a]) := by rw [h]

/-- make([]byte, n): a new row of zeros -/
def mk (n : Nat) (w : World) : World := w.alloc (.cells (madeCells (Value.int .u8 0).cells (n * 1)) 5)
theorem mk_below (n : Nat) (w : World) : Below w.heap.size w (mk n w) := (Below.refl _ _).alloc (Nat.le_refl _) _
theorem make_run (n : Nat) (hn : n ≤ 8192) (w : World) : (Instr.makeSlice 68 (.int .i64 (n : Int)) (.int .i64 (n : Int))).run Tryz.prog w = .ok (.slice (some ⟨w.heap.size, 0, none⟩) n n) (mk n w) := by
  obtain ⟨i0, hi, hz0, hz1, hz2⟩ := info_parts info5
  have h := run_make (P := Tryz.prog) w 68 5 i0 (.int .u8 0) Tryz.underlying68 hi hz0 .i64 .i64 n n (by omega) (Int.le_refl _) (by rw [hz2]; omega) (by omega)
  rw [hz1] at h
  simpa [mk] using h
theorem mk_cell (n : Nat) (w : World) (i : Nat) (hi : i < n) : (mk n w).cell? ⟨w.heap.size, i, none⟩ = some (.int .u8 0) := by
  have e : (madeCells (Value.int .u8 0).cells n)[i]? = some (.int .u8 0) := by
    rw [← Array.getElem?_toList, show (Value.int .u8 0).cells = #[.int .u8 0] from rfl, toList_madeCells_one, List.getElem?_replicate, if_pos hi]
  unfold mk
  simp [e]
theorem make_conv (n : Nat) (w : World) : (convert 68 9 (.slice (some ⟨w.heap.size, 0, none⟩) n n)).run Tryz.prog (mk n w) = .ok (.string (zeros n)) (mk n w) := by
  have h := run_convert_bytes_arg (mk n w) 68 5 Tryz.underlying68 Tryz.underlying5 w.heap.size 0 n n (List.replicate n 0) (by simp) (fun i hi => by
    rw [Nat.zero_add, mk_cell n w i hi]
    simp [hi]) 9 Tryz.underlying9
  rw [h]
  unfold zeros strOf
  rw [List.map_replicate]
  rfl
end Go.Proofs.YtlmgmdnmghgkbaaGreatDoor.L4

/- What stands ahead: the closure that tells an error, and the numbers at the beginning of a text. -/
namespace Go.Proofs.YtlmgmdnmghgkbaaGreatDoor.L4
open Go.ChangeShapes Go.WideShapes Go.ChangeAt Go.RowKit

/-- a reader in memory -/
def Rd (w : World) (r : Nat) (L : ByteArray) (e : Nat) : Prop := w.heap[r]? = some (.cells #[.string L, .int .i64 (e : Int)] 332 (0, 0))
theorem Rd.cell0 {w : World} {r e : Nat} {L : ByteArray} (h : Rd w r L e) : w.cell? ⟨r, 0, none⟩ = some (.string L) := by
  unfold Rd at h
  simp [World.cell?, h]
theorem Rd.cell1 {w : World} {r e : Nat} {L : ByteArray} (h : Rd w r L e) : w.cell? ⟨r, 1, none⟩ = some (.int .i64 (e : Int)) := by
  unfold Rd at h
  simp [World.cell?, h]
theorem Rd.free {w : World} {r e : Nat} {L : ByteArray} (h : Rd w r L e) (i : Nat) : w.frozen? ⟨r, i, none⟩ = false := by
  unfold Rd at h
  simp [World.frozen?, h]
theorem Rd.lt {w : World} {r e : Nat} {L : ByteArray} (h : Rd w r L e) : r < w.heap.size := (Array.getElem?_eq_some_iff.1 h).1
theorem Rd.setErr {w : World} {r e : Nat} {L : ByteArray} (h : Rd w r L e) (e' : Nat) : Rd (w.setCell ⟨r, 1, none⟩ (.int .i64 (e' : Int))) r L e' := by
  unfold Rd at *
  simp [World.setCell, Array.getElem?_modify, h]
theorem Rd.setLeft {w : World} {r e : Nat} {L : ByteArray} (h : Rd w r L e) (L' : ByteArray) : Rd (w.setCell ⟨r, 0, none⟩ (.string L')) r L' e := by
  unfold Rd at *
  simp [World.setCell, Array.getElem?_modify, h]

theorem full_of {s : ByteArray} (h : 0 < s.size) : s.toList.isEmpty = false := by
  rw [ByteArray.toList_eq, List.isEmpty_eq_false_iff]
  intro e
  have : s.data.toList.length = 0 := by rw [e]; rfl
  rw [Array.length_toList] at this
  exact absurd this (Nat.ne_of_gt h)

/-- the closure tells an error: it is the reader's -/
def tellW (w : World) (r er : Nat) : World := if er = 0 then w else w.setCell ⟨r, 1, none⟩ (.int .i64 (er : Int))

set_option maxHeartbeats 400000 in
theorem tell40 (x : Int) (c r e : Nat) (L : ByteArray) (w : World) (hc : w.cell? ⟨c, 0, none⟩ = some (.pointer (some ⟨r, 0, none⟩))) (hr : Rd w r L e) :
    Calls Tryz.prog 255 #[.int .i64 x, .pointer (some ⟨c, 0, none⟩)] w fun e w' => e = .returned (.tuple #[]) ∧ w' = w.setCell ⟨r, 1, none⟩ (.int .i64 x) := by
  have h1 := hr.cell1
  have hf := hr.free 1
  clear hr
  go_enter Tryz.func255, Tryz.ntmps255
  go_wp2
  go_end0
  exact ⟨rfl, rfl⟩
set_option maxHeartbeats 400000 in
theorem tell41 (x : Int) (c r e : Nat) (L : ByteArray) (w : World) (hc : w.cell? ⟨c, 0, none⟩ = some (.pointer (some ⟨r, 0, none⟩))) (hr : Rd w r L e) :
    Calls Tryz.prog 256 #[.int .i64 x, .pointer (some ⟨c, 0, none⟩)] w fun e w' => e = .returned (.tuple #[]) ∧ w' = w.setCell ⟨r, 1, none⟩ (.int .i64 x) := by
  have h1 := hr.cell1
  have hf := hr.free 1
  clear hr
  go_enter Tryz.func256, Tryz.ntmps256
  go_wp2
  go_end0
  exact ⟨rfl, rfl⟩
set_option maxHeartbeats 400000 in
theorem byteAhead_none (c r e : Nat) (L s : ByteArray) (w : World) (hs : s.size = 0) (hc : w.cell? ⟨c, 0, none⟩ = some (.pointer (some ⟨r, 0, none⟩))) (hr : Rd w r L e) :
    Calls Tryz.prog 236 #[.string s, .func (.func 255) #[] #[.pointer (some ⟨c, 0, none⟩)]] w fun e w' => e = .returned (.tuple #[.int .u8 0, .int .i64 0]) ∧ w' = w.setCell ⟨r, 1, none⟩ (.int .i64 20) := by
  obtain rfl : s = ⟨#[]⟩ := ByteArray.ext (Array.eq_empty_of_size_eq_zero hs)
  have HC := hide hc
  have HR := hide hr
  clear hc hr hs
  go_enter Tryz.func236, Tryz.ntmps236
  go_wp2_with (go_at_call 255; refine (tell40 _ _ _ _ _ _ (unhide HC) (unhide HR)).mono ?_; rintro e w' ⟨rfl, rfl⟩)
  go_ret2
  exact ⟨rfl, rfl⟩
set_option maxHeartbeats 400000 in
theorem byteAhead_some (v : Value) (s : ByteArray) (w : World) (hs : 0 < s.size) :
    Calls Tryz.prog 236 #[.string s, v] w fun e w' => e = .returned (.tuple #[.int .u8 ((s[0]).toNat : Int), .int .i64 1]) ∧ w' = w := by
  have he := full_of hs
  go_enter Tryz.func236, Tryz.ntmps236
  go_wp2
  go_ret2
  exact ⟨rfl, rfl⟩

theorem int_eq {k : IntKind} {a b : Int} (h : a = b) : Value.int k a = .int k b := by rw [h]
set_option maxHeartbeats 400000 in
theorem fixedAhead_none (c r e : Nat) (L s : ByteArray) (w : World) (hs : s.size < 8) (hc : w.cell? ⟨c, 0, none⟩ = some (.pointer (some ⟨r, 0, none⟩))) (hr : Rd w r L e) :
    Calls Tryz.prog 238 #[.string s, .func (.func 256) #[] #[.pointer (some ⟨c, 0, none⟩)]] w fun e w' => e = .returned (.tuple #[.int .u64 0, .int .i64 0]) ∧ w' = w.setCell ⟨r, 1, none⟩ (.int .i64 20) := by
  have HC := hide hc
  have HR := hide hr
  clear hc hr
  go_enter Tryz.func238, Tryz.ntmps238
  go_wp2_with (go_at_call 256; refine (tell41 _ _ _ _ _ _ (unhide HC) (unhide HR)).mono ?_; rintro e w' ⟨rfl, rfl⟩)
  go_ret2
  exact ⟨rfl, rfl⟩

theorem take_snoc_bn (s : ByteArray) (k : Nat) (h : k < s.size) : (bn s).take (k + 1) = (bn s).take k ++ [s[k].toNat] := by
  rw [List.take_succ_eq_append_getElem (by rw [bn_length]; exact h)]
  congr 2
  have := bn_at s k h
  rw [List.getElem?_eq_getElem (by rw [bn_length]; exact h)] at this
  exact Option.some.inj this
theorem or_byte (n b : Nat) (hn : n < 72057594037927936) (hb : b < 256) : bits .or .u64 ((n : Int) * 256) (b : Int) = ((n * 256 + b : Nat) : Int) := by
  have h := u64_or_nat (n * 256) b (by omega) (by omega)
  have e := Nat.two_pow_add_eq_or_of_lt (i := 8) (b := b) (by omega) n
  have e2 : n * 256 ||| b = n * 256 + b := by
    rw [show (2 : Nat) ^ 8 = 256 by rfl] at e
    rw [Nat.mul_comm n 256]
    exact e.symm
  rw [e2] at h
  rw [← h]
  simp
theorem fix_bound (s : ByteArray) (i : Nat) (hi : i ≤ 7) : Pk.fixN ((bn s).take i) < 72057594037927936 := by
  have h1 := Pk.fixN_lt ((bn s).take i) (fun b hb => bn_lt s b (List.mem_of_mem_take hb))
  have h2 : 256 ^ ((bn s).take i).length ≤ 256 ^ 7 := Nat.pow_le_pow_right (by decide) (by rw [List.length_take]; omega)
  have h3 : (256 : Nat) ^ 7 = 72057594037927936 := by decide
  omega

set_option maxRecDepth 10000 in
set_option maxHeartbeats 1000000 in
theorem fixedAhead_some (v : Value) (s : ByteArray) (w : World) (hs : 8 ≤ s.size) :
    Calls Tryz.prog 238 #[.string s, v] w fun e w' => e = .returned (.tuple #[.int .u64 (Pk.fixN ((bn s).take 8) : Nat), .int .i64 8]) ∧ w' = w := by
  go_enter Tryz.func238, Tryz.ntmps238
  go_wp2
  go_loop [6, 13] (fun t j => ∃ i : Nat, i ≤ 8 ∧ j = .int .i64 i ∧ t = .int .u64 (Pk.fixN ((bn s).take i) : Nat)) (fun _ j => 8 - (intOf j).toNat)
  case atStart => exact ⟨0, by omega, rfl, rfl⟩
  case round =>
    obtain ⟨i, hi, rfl, rfl⟩ := hrel
    by_cases hlt : i < 8
    · have his : i < s.size := by omega
      have hb : (s[i].toNat : Int) < 256 := by have := s[i].toNat_lt; omega
      have hn := fix_bound s i (by omega)
      have HS : Hid (Pk.fixN ((bn s).take (i + 1)) = Pk.fixN ((bn s).take i) * 256 + s[i].toNat) := by
        show _ = _
        rw [take_snoc_bn s i his, Pk.fixN_snoc]
      generalize Pk.fixN ((bn s).take i) = n at *
      have HE := hide (or_byte n s[i].toNat hn (by omega))
      go_wp2
      go_round
      case rel => exact ⟨i + 1, by omega, by go_num, by rw [unhide HS]; exact int_eq (unhide HE)⟩
      case measure => simp [intOf]; omega
    · obtain rfl : i = 8 := by omega
      go_wp2
      go_ret2
      exact ⟨rfl, rfl⟩
/-- nothing but the reader has turned, and the reader is this -/
def Told (w w' : World) (r : Nat) (L : ByteArray) (e : Nat) : Prop := w.grownBy w' (some r) ∧ Rd w' r L e
theorem grown_refl (w : World) (r : Option Nat) : w.grownBy w r := ⟨rfl, rfl, rfl, Nat.le_refl _, fun _ _ _ => rfl⟩
theorem grown_set (w : World) (g j : Nat) (u : Value) : w.grownBy (w.setCell ⟨g, j, none⟩ u) (some g) :=
  ⟨rfl, rfl, rfl, by simp, fun k _ hne => Below.heap_setCell w ⟨g, j, none⟩ u k (fun e => hne (by rw [e]))⟩
theorem grown_trans {a b c : World} {r : Option Nat} (h : a.grownBy b r) (k : b.grownBy c r) : a.grownBy c r :=
  ⟨k.os.trans h.os, k.tape.trans h.tape, k.output.trans h.output, Nat.le_trans h.size k.size, fun i hi hne => (k.block i (Nat.lt_of_lt_of_le hi h.size) hne).trans (h.block i hi hne)⟩
theorem grown_below {w w' : World} (h : Below w.heap.size w w') (r : Option Nat) : w.grownBy w' r := ⟨h.os, h.tape, h.output, h.size, fun k hk _ => h.block k hk⟩
theorem Rd.below {w w' : World} {r e : Nat} {L : ByteArray} (h : Rd w r L e) (hb : Below w.heap.size w w') : Rd w' r L e := (hb.block r h.lt).trans h
theorem Told.refl {w : World} {r e : Nat} {L : ByteArray} (h : Rd w r L e) : Told w w r L e := ⟨grown_refl _ _, h⟩
theorem Told.err {w : World} {r e : Nat} {L : ByteArray} (h : Rd w r L e) (e' : Nat) : Told w (w.setCell ⟨r, 1, none⟩ (.int .i64 (e' : Int))) r L e' := ⟨grown_set _ _ _ _, h.setErr e'⟩
theorem Told.tell {w : World} {r : Nat} {L : ByteArray} (h : Rd w r L 0) (e' : Nat) : Told w (tellW w r e') r L e' := by
  unfold tellW
  split
  · rename_i h0; subst h0; exact .refl h
  · exact .err h e'

end Go.Proofs.YtlmgmdnmghgkbaaGreatDoor.L4

/- What take does: it goes on behind what stands ahead. -/
namespace Go.Proofs.YtlmgmdnmghgkbaaGreatDoor.L4
open Go.ChangeShapes Go.WideShapes Go.ChangeAt Go.RowKit

set_option maxHeartbeats 400000 in
theorem err_any (r e : Nat) (L : ByteArray) (w : World) (hr : Rd w r L e) :
    Calls Tryz.prog 247 #[.pointer (some ⟨r, 0, none⟩)] w fun x w' => x = .returned (.int .i64 (e : Int)) ∧ w' = w := by
  have h1 := hr.cell1
  clear hr
  go_enter Tryz.func247, Tryz.ntmps247
  go_wp2
  go_ret
  exact ⟨rfl, rfl⟩

theorem Rd.alloc {w : World} {r e : Nat} {L : ByteArray} (h : Rd w r L e) (o : Obj) : Rd (w.alloc o) r L e := h.below ((Below.refl _ _).alloc (Nat.le_refl _) o)
theorem Rd.drew {w : World} {r e : Nat} {L : ByteArray} (h : Rd w r L e) : Rd w.drew r L e := h.below (Below.refl _ _).drew
theorem grown_drew (w : World) (r : Option Nat) : w.grownBy w.drew r := grown_below (Below.refl _ _).drew r
theorem grown_alloc (w : World) (o : Obj) (r : Option Nat) : w.grownBy (w.alloc o) r := grown_below ((Below.refl _ _).alloc (Nat.le_refl _) o) r
/-- behind the store -/
theorem Told.left {w w' : World} {o : Obj} {r e : Nat} {L : ByteArray} (h : Told (w.alloc o) w' r L e) (L' : ByteArray) : Told w (w'.setCell ⟨r, 0, none⟩ (.string L')).drew r L' e :=
  ⟨grown_trans (grown_trans (grown_trans (grown_alloc w o _) h.1) (grown_set _ _ _ _)) (grown_drew _ _), (h.2.setLeft L').drew⟩
theorem Told.box {w w' : World} {r e : Nat} {L : ByteArray} {v : Value} {t : TypeId} (h : Told (w.alloc (.cells #[v] t)) w' r L e) (hr : r < w.heap.size) : w'.cell? ⟨w.heap.size, 0, none⟩ = some v :=
  World.grownBy.cell h.1 (by simp) (by simp; omega)

set_option maxRecDepth 10000 in
set_option maxHeartbeats 1000000 in
theorem take_err_u8 (v : Value) (r e : Nat) (L : ByteArray) (w : World) (hr : Rd w r L e) (h0 : e ≠ 0) :
    Calls Tryz.prog 235 #[.pointer (some ⟨r, 0, none⟩), v] w fun x w' => x = .returned (.int .u8 0) ∧ Told w w' r L e := by
  have HE := hide (err_any r e L _ (hr.alloc (.cells #[.pointer (some ⟨r, 0, none⟩)] 293)))
  have HR := hide hr
  clear hr
  have hne : ((e : Int) == 0) = false := beq_eq_false_iff_ne.2 (by omega)
  have hne2 : ((e : Int) != 0) = true := bne_iff_ne.2 (by omega)
  clear h0
  go_enter Tryz.func235, Tryz.ntmps235
  go_wp2_with (go_at_call 247; refine (unhide HE).mono ?_; rintro x w' ⟨rfl, rfl⟩)
  go_ret
  exact ⟨rfl, grown_alloc _ _ _, (unhide HR).alloc _⟩
set_option maxRecDepth 10000 in
set_option maxHeartbeats 1000000 in
theorem take_err_u64 (v : Value) (r e : Nat) (L : ByteArray) (w : World) (hr : Rd w r L e) (h0 : e ≠ 0) :
    Calls Tryz.prog 237 #[.pointer (some ⟨r, 0, none⟩), v] w fun x w' => x = .returned (.int .u64 0) ∧ Told w w' r L e := by
  have HE := hide (err_any r e L _ (hr.alloc (.cells #[.pointer (some ⟨r, 0, none⟩)] 293)))
  have HR := hide hr
  clear hr
  have hne : ((e : Int) == 0) = false := beq_eq_false_iff_ne.2 (by omega)
  have hne2 : ((e : Int) != 0) = true := bne_iff_ne.2 (by omega)
  clear h0
  go_enter Tryz.func237, Tryz.ntmps237
  go_wp2_with (go_at_call 247; refine (unhide HE).mono ?_; rintro x w' ⟨rfl, rfl⟩)
  go_ret
  exact ⟨rfl, grown_alloc _ _ _, (unhide HR).alloc _⟩
set_option maxRecDepth 10000 in
set_option maxHeartbeats 1000000 in
theorem take_byte (r k er : Nat) (n : Nat) (L : ByteArray) (w : World) (hr : Rd w r L 0) (_hL : L.size ≤ 1000000) (hk : k ≤ L.size)
    (hA : Calls Tryz.prog 236 #[.string L, .func (.func 255) #[] #[.pointer (some ⟨w.heap.size, 0, none⟩)]] (w.alloc (.cells #[.pointer (some ⟨r, 0, none⟩)] 293)) fun x w' =>
      x = .returned (.tuple #[.int .u8 (n : Int), .int .i64 (k : Int)]) ∧ Told (w.alloc (.cells #[.pointer (some ⟨r, 0, none⟩)] 293)) w' r L er) :
    Calls Tryz.prog 235 #[.pointer (some ⟨r, 0, none⟩), .func (.func 236) #[] #[]] w fun x w' => x = .returned (.int .u8 (n : Int)) ∧ Told w w' r (L.extract k L.size) er := by
  have HE := hide (err_any r 0 L _ (hr.alloc (.cells #[.pointer (some ⟨r, 0, none⟩)] 293)))
  have HA := hide hA
  have hlt := hr.lt
  have hne : ¬ r = w.heap.size := by omega
  have hc0 : (w.alloc (.cells #[.pointer (some ⟨r, 0, none⟩)] 293)).cell? ⟨r, 0, none⟩ = some (.string L) := (hr.alloc _).cell0
  clear hr hA
  go_enter Tryz.func235, Tryz.ntmps235
  go_wp2_with (first
    | (go_at_call 247; refine (unhide HE).mono ?_; rintro x w' ⟨rfl, rfl⟩)
    | (go_at_call 236; refine (unhide HA).mono ?_; rintro x w' ⟨rfl, ht⟩; have hb0 := ht.2.cell0; have hf0 := ht.2.free 0; have hbx := ht.box hlt; have HT := hide ht; clear ht))
  go_region
  all_goals go_wp2
  all_goals go_ret
  all_goals exact ⟨rfl, (unhide HT).left _⟩
set_option maxRecDepth 10000 in
set_option maxHeartbeats 1000000 in
theorem take_fixed (r k er : Nat) (n : Nat) (L : ByteArray) (w : World) (hr : Rd w r L 0) (_hL : L.size ≤ 1000000) (hk : k ≤ L.size)
    (hA : Calls Tryz.prog 238 #[.string L, .func (.func 256) #[] #[.pointer (some ⟨w.heap.size, 0, none⟩)]] (w.alloc (.cells #[.pointer (some ⟨r, 0, none⟩)] 293)) fun x w' =>
      x = .returned (.tuple #[.int .u64 (n : Int), .int .i64 (k : Int)]) ∧ Told (w.alloc (.cells #[.pointer (some ⟨r, 0, none⟩)] 293)) w' r L er) :
    Calls Tryz.prog 237 #[.pointer (some ⟨r, 0, none⟩), .func (.func 238) #[] #[]] w fun x w' => x = .returned (.int .u64 (n : Int)) ∧ Told w w' r (L.extract k L.size) er := by
  have HE := hide (err_any r 0 L _ (hr.alloc (.cells #[.pointer (some ⟨r, 0, none⟩)] 293)))
  have HA := hide hA
  have hlt := hr.lt
  have hne : ¬ r = w.heap.size := by omega
  have hc0 : (w.alloc (.cells #[.pointer (some ⟨r, 0, none⟩)] 293)).cell? ⟨r, 0, none⟩ = some (.string L) := (hr.alloc _).cell0
  clear hr hA
  go_enter Tryz.func237, Tryz.ntmps237
  go_wp2_with (first
    | (go_at_call 247; refine (unhide HE).mono ?_; rintro x w' ⟨rfl, rfl⟩)
    | (go_at_call 238; refine (unhide HA).mono ?_; rintro x w' ⟨rfl, ht⟩; have hb0 := ht.2.cell0; have hf0 := ht.2.free 0; have hbx := ht.box hlt; have HT := hide ht; clear ht))
  go_region
  all_goals go_wp2
  all_goals go_ret
  all_goals exact ⟨rfl, (unhide HT).left _⟩
end Go.Proofs.YtlmgmdnmghgkbaaGreatDoor.L4

/- What a reader of package pack answers, call by call. -/
namespace Go.Proofs.YtlmgmdnmghgkbaaGreatDoor.L4
open Go.ChangeShapes Go.WideShapes Go.ChangeAt Go.RowKit

/-- THE DOCUMENT's: the answer, what is left, the error -/
def byteR (L : ByteArray) (e : Nat) : Nat × ByteArray × Nat :=
  if e ≠ 0 then (0, L, e) else if L.size = 0 then (0, L, 20) else ((bn L).getD 0 0, L.extract 1 L.size, 0)
def fixedR (L : ByteArray) (e : Nat) : Nat × ByteArray × Nat :=
  if e ≠ 0 then (0, L, e) else if L.size < 8 then (0, L, 20) else (Pk.fixN ((bn L).take 8), L.extract 8 L.size, 0)
theorem ext0 (L : ByteArray) : L.extract 0 L.size = L := by
  apply ByteArray.ext
  simp
theorem byte0 (L : ByteArray) (h : 0 < L.size) : (bn L).getD 0 0 = L[0].toNat := by
  rw [List.getD_eq_getElem?_getD, bn_at L 0 h]
  rfl
set_option maxHeartbeats 400000 in
theorem read_any (s : ByteArray) (w : World) :
    Calls Tryz.prog 185 #[.string s] w fun x w' => x = .returned (.pointer (some ⟨w.heap.size, 0, none⟩)) ∧ w' = w.alloc (.cells #[.string s, .int .i64 0] 332) := by
  go_enter Tryz.func185, Tryz.ntmps185
  go_wp2
  go_ret
  exact ⟨rfl, rfl⟩
theorem Rd.new (w : World) (s : ByteArray) : Rd (w.alloc (.cells #[.string s, .int .i64 0] 332)) w.heap.size s 0 := heap_alloc_new w _

theorem box_cell (w : World) (v : Value) (t : TypeId) : (w.alloc (.cells #[v] t)).cell? ⟨w.heap.size, 0, none⟩ = some v := by simp

/- Byte -/
theorem takeByte_any (r e : Nat) (L : ByteArray) (w : World) (hr : Rd w r L e) (hL : L.size ≤ 1000000) :
    Calls Tryz.prog 235 #[.pointer (some ⟨r, 0, none⟩), .func (.func 236) #[] #[]] w fun x w' => x = .returned (.int .u8 ((byteR L e).1 : Int)) ∧ Told w w' r (byteR L e).2.1 (byteR L e).2.2 := by
  by_cases he : e ≠ 0
  · unfold byteR
    rw [if_pos he]
    exact take_err_u8 _ r e L w hr he
  · obtain rfl : e = 0 := by omega
    unfold byteR
    rw [if_neg he]
    by_cases h0 : L.size = 0
    · rw [if_pos h0]
      have h := take_byte r 0 20 0 L w hr hL (Nat.zero_le _) ((byteAhead_none w.heap.size r 0 L L _ h0 (box_cell _ _ _) (hr.alloc _)).mono (by rintro x w' ⟨rfl, rfl⟩; exact ⟨rfl, Told.err (hr.alloc _) 20⟩))
      rw [ext0] at h
      exact h
    · rw [if_neg h0]
      have hp : 0 < L.size := by omega
      have h := take_byte r 1 0 (L[0].toNat) L w hr hL hp ((byteAhead_some _ L _ hp).mono (by rintro x w' ⟨rfl, rfl⟩; exact ⟨rfl, Told.refl (hr.alloc _)⟩))
      rw [byte0 L hp]
      exact h
set_option maxHeartbeats 400000 in
theorem byte_any (r e : Nat) (L : ByteArray) (w : World) (hr : Rd w r L e) (hL : L.size ≤ 1000000) :
    Calls Tryz.prog 213 #[.pointer (some ⟨r, 0, none⟩)] w fun x w' => x = .returned (.int .u8 ((byteR L e).1 : Int)) ∧ Told w w' r (byteR L e).2.1 (byteR L e).2.2 := by
  have HT := hide (takeByte_any r e L w hr hL)
  clear hr
  generalize byteR L e = T at *
  go_enter Tryz.func213, Tryz.ntmps213
  go_wp2_with (go_at_call 235; refine (unhide HT).mono ?_; rintro x w' ⟨rfl, ht⟩)
  go_ret
  exact ⟨rfl, ht⟩
/- Fixed -/
theorem takeFixed_any (r e : Nat) (L : ByteArray) (w : World) (hr : Rd w r L e) (hL : L.size ≤ 1000000) :
    Calls Tryz.prog 237 #[.pointer (some ⟨r, 0, none⟩), .func (.func 238) #[] #[]] w fun x w' => x = .returned (.int .u64 ((fixedR L e).1 : Int)) ∧ Told w w' r (fixedR L e).2.1 (fixedR L e).2.2 := by
  by_cases he : e ≠ 0
  · unfold fixedR
    rw [if_pos he]
    exact take_err_u64 _ r e L w hr he
  · obtain rfl : e = 0 := by omega
    unfold fixedR
    rw [if_neg he]
    by_cases h0 : L.size < 8
    · rw [if_pos h0]
      have h := take_fixed r 0 20 0 L w hr hL (Nat.zero_le _) ((fixedAhead_none w.heap.size r 0 L L _ h0 (box_cell _ _ _) (hr.alloc _)).mono (by rintro x w' ⟨rfl, rfl⟩; exact ⟨rfl, Told.err (hr.alloc _) 20⟩))
      rw [ext0] at h
      exact h
    · rw [if_neg h0]
      exact take_fixed r 8 0 _ L w hr hL (by omega) ((fixedAhead_some _ L _ (by omega)).mono (by rintro x w' ⟨rfl, rfl⟩; exact ⟨rfl, Told.refl (hr.alloc _)⟩))
set_option maxHeartbeats 400000 in
theorem rfixed_any (r e : Nat) (L : ByteArray) (w : World) (hr : Rd w r L e) (hL : L.size ≤ 1000000) :
    Calls Tryz.prog 214 #[.pointer (some ⟨r, 0, none⟩)] w fun x w' => x = .returned (.int .u64 ((fixedR L e).1 : Int)) ∧ Told w w' r (fixedR L e).2.1 (fixedR L e).2.2 := by
  have HT := hide (takeFixed_any r e L w hr hL)
  clear hr
  generalize fixedR L e = T at *
  go_enter Tryz.func214, Tryz.ntmps214
  go_wp2_with (go_at_call 237; refine (unhide HT).mono ?_; rintro x w' ⟨rfl, ht⟩)
  go_ret
  exact ⟨rfl, ht⟩
end Go.Proofs.YtlmgmdnmghgkbaaGreatDoor.L4

/- What the copy of a text is: the same bytes (the library's own contract of that function, laid at this program's numbers). -/
namespace Go.Proofs.YtlmgmdnmghgkbaaGreatDoor.L4
open Go.ChangeShapes Go.WideShapes Go.ChangeAt Go.RowKit Go.Shelf

/-- the shelf's numbers, as this program has them -/
def ren : Ren := ⟨fun n => if n = 25 then 211 else n, fun n => if n = 37 then 68 else if n = 47 then 348 else n, fun n => n⟩
theorem lays : LaysPu.n25 Tryz.prog ren where
  mixed := by kernel_rfl
  f25 := by kernel_rfl
  t0 := by kernel_rfl
  a0 := fun _ => by kernel_rfl
  z0 := fun _ => by kernel_rfl
  v0 := fun _ => by kernel_rfl
  i0 := by kernel_rfl
  t3 := by kernel_rfl
  a3 := fun _ => by kernel_rfl
  z3 := fun _ => by kernel_rfl
  v3 := fun _ => by kernel_rfl
  i3 := by kernel_rfl
  t4 := by kernel_rfl
  a4 := fun _ => by kernel_rfl
  z4 := fun _ => by kernel_rfl
  v4 := fun _ => by kernel_rfl
  i4 := by kernel_rfl
  t5 := by kernel_rfl
  a5 := fun _ => by kernel_rfl
  z5 := fun _ => by kernel_rfl
  v5 := fun _ => by kernel_rfl
  i5 := by kernel_rfl
  t9 := by kernel_rfl
  a9 := fun _ => by kernel_rfl
  z9 := fun _ => by kernel_rfl
  v9 := fun _ => by kernel_rfl
  i9 := by kernel_rfl
  t37 := by kernel_rfl
  a37 := fun _ => by kernel_rfl
  z37 := fun _ => by kernel_rfl
  v37 := fun _ => by kernel_rfl
  i37 := by kernel_rfl
  t47 := by kernel_rfl
  a47 := fun _ => by kernel_rfl
  z47 := fun _ => by kernel_rfl
  v47 := fun _ => by kernel_rfl
  i47 := by kernel_rfl

theorem sclone_any (s : ByteArray) (w : World) (hlim : s.size ≤ 1000000) :
    Calls Tryz.prog 211 #[.string s] w fun e w' => e = .returned (.string s) ∧ Below w.heap.size w w' :=
  AnyPu.stringslite_Clone lays s w (by omega)

set_option maxHeartbeats 400000 in
theorem clone_any (s : ByteArray) (w : World) (hlim : s.size ≤ 1000000) :
    Calls Tryz.prog 176 #[.string s] w fun e w' => e = .returned (.string s) ∧ Below w.heap.size w w' := by
  go_enter Tryz.func176, Tryz.ntmps176
  go_wp2_with (go_at_call 211; refine (sclone_any _ _ hlim).mono ?_; rintro e w' ⟨rfl, hb⟩)
  go_ret
  exact ⟨rfl, hb⟩
end Go.Proofs.YtlmgmdnmghgkbaaGreatDoor.L4

/- A reader of a text at a place, beside the result's variable: what blockOf does step by step. -/
namespace Go.Proofs.YtlmgmdnmghgkbaaGreatDoor.L4
open Go.ChangeShapes Go.WideShapes Go.ChangeAt Go.RowKit

theorem bn_extract (s : ByteArray) (a b : Nat) : bn (s.extract a b) = ((bn s).drop a).take (b - a) := by
  unfold bn
  rw [Lib.extract_data, List.map_take, List.map_drop]
theorem bn_from (s : ByteArray) (k : Nat) : bn (s.extract k s.size) = (bn s).drop k := by
  rw [bn_extract, List.take_of_length_le (by rw [List.length_drop, bn_length]; exact Nat.le_refl _)]
theorem size_from (s : ByteArray) (k : Nat) : (s.extract k s.size).size = s.size - k := by rw [← bn_length, bn_from, List.length_drop, bn_length]
theorem from_from (s : ByteArray) (k j : Nat) : (s.extract k s.size).extract j (s.extract k s.size).size = s.extract (k + j) s.size := by
  apply bn_inj
  rw [bn_from, bn_from, bn_from, List.drop_drop]

theorem getD_lt {l : List Nat} (hl : ∀ b ∈ l, b < 256) (k : Nat) : l.getD k 0 < 256 := by
  rw [List.getD_eq_getElem?_getD]
  by_cases h : k < l.length
  · rw [List.getElem?_eq_getElem h]; exact hl _ (List.getElem_mem h)
  · rw [List.getElem?_eq_none (by omega)]; decide
theorem byteR_at (U : ByteArray) (k : Nat) (hk : k < U.size) : byteR (U.extract k U.size) 0 = ((bn U).getD k 0, U.extract (k + 1) U.size, 0) := by
  unfold byteR
  rw [if_neg (by simp), if_neg (by rw [size_from]; omega), from_from, bn_from]
  simp [List.getD_eq_getElem?_getD, List.getElem?_drop]
theorem fixedR_at (U : ByteArray) (k : Nat) (hk : k + 8 ≤ U.size) : fixedR (U.extract k U.size) 0 = (Pk.fixN (((bn U).drop k).take 8), U.extract (k + 8) U.size, 0) := by
  unfold fixedR
  rw [if_neg (by simp), if_neg (by rw [size_from]; omega), from_from, bn_from]

/-- the result's variable is as it began, and the reader stands there -/
def At (W w : World) (r : Nat) (U : ByteArray) (k : Nat) : Prop :=
  Below W.heap.size W w ∧ w.heap[W.heap.size]? = some (.cells #[.int .i64 0, .int .i64 0, .string ⟨#[]⟩] 161 (0, 0)) ∧ Rd w r (U.extract k U.size) 0 ∧ W.heap.size < r
theorem At.then {W w w' : World} {r : Nat} {U : ByteArray} {k : Nat} (h : At W w r U k) (hb : Below w.heap.size w w') : At W w' r U k := by
  obtain ⟨h1, h2, h3, h4⟩ := h
  exact ⟨below_then h1 hb, (hb.block _ (Array.getElem?_eq_some_iff.1 h2).1).trans h2, h3.below hb, h4⟩
theorem At.told {W w w' : World} {r : Nat} {U : ByteArray} {k j : Nat} (h : At W w r U k) (t : Told w w' r (U.extract j U.size) 0) : At W w' r U j := by
  obtain ⟨h1, h2, h3, h4⟩ := h
  exact ⟨h1.grown t.1 h1.size (fun x hx => by cases hx; omega), (t.1.block _ (Array.getElem?_eq_some_iff.1 h2).1 (fun e => by cases e; omega)).trans h2, t.2, h4⟩

theorem read_step (W : World) (U : ByteArray) :
    Calls Tryz.prog 185 #[.string (U.extract 2 U.size)] (W.alloc (.cells #[.int .i64 0, .int .i64 0, .string ⟨#[]⟩] 161)) fun e w' => ∃ r, e = .returned (.pointer (some ⟨r, 0, none⟩)) ∧ At W w' r U 2 := by
  refine (read_any _ _).mono ?_
  rintro e w' ⟨rfl, rfl⟩
  refine ⟨_, rfl, ((Below.refl _ _).alloc (Nat.le_refl _) _).alloc (by simp) _, ?_, Rd.new _ _, by simp⟩
  rw [Below.heap_alloc _ _ _ (by simp)]
  exact heap_alloc_new W _
theorem read_step' (W : World) (U L : ByteArray) (hL : L = U.extract 2 U.size) :
    Calls Tryz.prog 185 #[.string L] (W.alloc (.cells #[.int .i64 0, .int .i64 0, .string ⟨#[]⟩] 161)) fun e w' => ∃ r, e = .returned (.pointer (some ⟨r, 0, none⟩)) ∧ At W w' r U 2 := by
  subst hL
  exact read_step W U
theorem byte_step {W w : World} {r : Nat} {U : ByteArray} {k j x : Nat} (h : At W w r U k) (hk : k < U.size) (hj : j = k + 1) (hx : (bn U).getD k 0 = x) (hU : U.size ≤ 1000000) :
    Calls Tryz.prog 213 #[.pointer (some ⟨r, 0, none⟩)] w fun e w' => e = .returned (.int .u8 (x : Int)) ∧ At W w' r U j := by
  subst hj
  have := byte_any r 0 _ w h.2.2.1 (by rw [size_from]; omega)
  rw [byteR_at U k hk, hx] at this
  refine this.mono ?_
  rintro e w' ⟨rfl, ht⟩
  exact ⟨rfl, h.told ht⟩
theorem fixed_step' {W w : World} {r : Nat} {U : ByteArray} {k x : Nat} (h : At W w r U k) (hk : k + 8 ≤ U.size) (hx : Pk.fixN (((bn U).drop k).take 8) = x) (hU : U.size ≤ 1000000) :
    Calls Tryz.prog 214 #[.pointer (some ⟨r, 0, none⟩)] w fun e w' => e = .returned (.int .u64 (x : Int)) ∧ At W w' r U (k + 8) := by
  have := rfixed_any r 0 _ w h.2.2.1 (by rw [size_from]; omega)
  rw [fixedR_at U k hk, hx] at this
  refine this.mono ?_
  rintro e w' ⟨rfl, ht⟩
  exact ⟨rfl, h.told ht⟩
theorem trim_step {W w : World} {r : Nat} {U : ByteArray} {k : Nat} (h : At W w r U k) (s : ByteArray) (hs : s.size ≤ 9223372036854775807) :
    Calls Tryz.prog 215 #[.string s, .string ⟨#[0]⟩] w fun e w' => e = .returned (.string ⟨(Lib.trimB s.data.toList 0).toArray⟩) ∧ At W w' r U k := by
  refine (trim_any s w hs).mono ?_
  rintro e w' ⟨rfl, rfl | rfl⟩
  · exact ⟨rfl, h⟩
  · exact ⟨rfl, h.then (Below.refl _ _).drew⟩
theorem clone_step {W w : World} {r : Nat} {U : ByteArray} {k : Nat} (h : At W w r U k) (s : ByteArray) (hs : s.size ≤ 1000000) :
    Calls Tryz.prog 176 #[.string s] w fun e w' => e = .returned (.string s) ∧ At W w' r U k := by
  refine (clone_any s w hs).mono ?_
  rintro e w' ⟨rfl, hb⟩
  exact ⟨rfl, h.then hb⟩

theorem or_i64 (n b : Nat) (hn : n < 256) (hb : b < 256) : bits .or .i64 ((n : Int) * 256) (b : Int) = ((n * 256 + b : Nat) : Int) := by
  have e := Nat.two_pow_add_eq_or_of_lt (i := 8) (b := b) (by omega) n
  have e2 : n * 256 ||| b = n * 256 + b := by
    rw [show (2 : Nat) ^ 8 = 256 by rfl] at e
    rw [Nat.mul_comm n 256]
    exact e.symm
  have h : bits .or .i64 ((n * 256 : Nat) : Int) (b : Int) = ((n * 256 + b : Nat) : Int) := by
    show IntKind.i64.wrap ((BitVec.ofInt 64 ((n * 256 : Nat) : Int) ||| BitVec.ofInt 64 (b : Int)).toNat : Int) = _
    rw [BitVec.toNat_or, ofInt_u64 _ (by omega), ofInt_u64 _ (by omega), e2, IntKind.wrap_i64]
    omega
  rw [← h]
  simp

/-- THE DOCUMENT's: the block of the bytes ahead of the sum, and of a sector -/
def blockR (U : ByteArray) : Int × Int × ByteArray × Nat :=
  if (bn U).take 2 = [67, 80] ∧ Blk.lenOf (bn U) ≤ 1007 ∧ Blk.genOf (bn U) ≤ 1152921504606846976 ∧ ∀ x ∈ (bn U).drop (13 + Blk.lenOf (bn U)), x = 0
  then (((bn U).getD 2 0 : Nat), (Blk.genOf (bn U) : Nat), U.extract 13 (13 + Blk.lenOf (bn U)), 0) else (0, 0, ⟨#[]⟩, 21)
def openR (S : ByteArray) : Int × Int × ByteArray × Nat :=
  if S.size ≠ 1024 then (0, 0, ⟨#[]⟩, 32) else if (bn S).drop 1020 ≠ Blk.le4 (Crc.sum ((bn S).take 1020)) then (0, 0, ⟨#[]⟩, 40) else blockR (S.extract 0 1020)
/-- what an answer of Open is -/
def opened (T : Int × Int × ByteArray × Nat) : Value := .tuple #[.agg #[.int .i64 T.1, .int .i64 T.2.1, .string T.2.2.1], .int .i64 (T.2.2.2 : Nat)]
theorem At.cells {W w : World} {r : Nat} {U : ByteArray} {k : Nat} (h : At W w r U k) : w.cell? ⟨W.heap.size, 0, none⟩ = some (.int .i64 0) ∧ w.cell? ⟨W.heap.size, 1, none⟩ = some (.int .i64 0) ∧ w.cell? ⟨W.heap.size, 2, none⟩ = some (.string ⟨#[]⟩) ∧ ∀ i, w.frozen? ⟨W.heap.size, i, none⟩ = false := by
  have h2 := h.2.1
  refine ⟨?_, ?_, ?_, fun i => ?_⟩
  · simp [World.cell?, h2]
  · simp [World.cell?, h2]
  · simp [World.cell?, h2]
  · simp [World.frozen?, h2]
end Go.Proofs.YtlmgmdnmghgkbaaGreatDoor.L4

/- Wrap and Open beside one another: there and back, turned bits, zeros. Plain functions alone. -/
namespace Go.Proofs.YtlmgmdnmghgkbaaGreatDoor.L4
open Go.ChangeShapes Go.WideShapes Go.ChangeAt Go.RowKit

theorem take_getD (l : List Nat) (i : Nat) (hi : i < 1020) : (l.take 1020).getD i 0 = l.getD i 0 := by
  rw [List.getD_eq_getElem?_getD, List.getD_eq_getElem?_getD, List.getElem?_take_of_lt hi]
theorem lenOf_take (l : List Nat) : Blk.lenOf (l.take 1020) = Blk.lenOf l := by
  unfold Blk.lenOf
  rw [take_getD l 3 (by decide), take_getD l 4 (by decide)]
theorem genOf_take (l : List Nat) : Blk.genOf (l.take 1020) = Blk.genOf l := by
  unfold Blk.genOf
  rw [List.drop_take, List.take_take]
  rfl
theorem bn_fst (s : ByteArray) (j : Nat) : bn (s.extract 0 j) = (bn s).take j := by rw [bn_extract, List.drop_zero, Nat.sub_zero]
theorem good_take (l : List Nat) : ((l.take 1020).take 2 = [67, 80] ∧ Blk.lenOf (l.take 1020) ≤ 1007 ∧ Blk.genOf (l.take 1020) ≤ 1152921504606846976 ∧ ∀ x ∈ (l.take 1020).drop (13 + Blk.lenOf (l.take 1020)), x = 0) ↔ Blk.Good l := by
  unfold Blk.Good
  rw [lenOf_take, genOf_take, List.take_take]
  exact Iff.rfl

theorem bn_pay (S : ByteArray) : bn (strOf (Blk.payOf (bn S))) = Blk.payOf (bn S) :=
  bn_strOf _ (fun b hb => bn_lt S b (List.mem_of_mem_drop (List.mem_of_mem_take hb)))
theorem openR_ok {S : ByteArray} (h : S.size = 1024) (hf : Blk.Fits (bn S)) (hg : Blk.Good (bn S)) : openR S = ((((bn S).getD 2 0 : Nat) : Int), ((Blk.genOf (bn S) : Nat) : Int), strOf (Blk.payOf (bn S)), 0) := by
  unfold openR
  rw [if_neg (fun hh => hh h), if_neg (fun hh => hh hf)]
  unfold blockR
  rw [bn_fst, if_pos ((good_take _).2 hg), take_getD _ 2 (by decide), genOf_take, lenOf_take]
  refine Prod.ext rfl (Prod.ext rfl (Prod.ext ?_ rfl))
  apply bn_inj
  show bn ((S.extract 0 1020).extract 13 (13 + Blk.lenOf (bn S))) = bn (strOf (Blk.payOf (bn S)))
  have hn := hg.2.1
  rw [bn_extract, bn_fst, bn_pay, List.drop_take, List.take_take, Nat.min_eq_left (by omega), Nat.add_sub_cancel_left]
  rfl
theorem openR_cases (S : ByteArray) : (S.size = 1024 ∧ Blk.Fits (bn S) ∧ Blk.Good (bn S)) ∨ ∃ e : Nat, (e = 32 ∨ e = 40 ∨ e = 21) ∧ openR S = (0, 0, ⟨#[]⟩, e) := by
  unfold openR
  by_cases h : S.size = 1024
  · rw [if_neg (fun hh => hh h)]
    by_cases hf : (bn S).drop 1020 = Blk.le4 (Crc.sum ((bn S).take 1020))
    · rw [if_neg (fun hh => hh hf)]
      by_cases hg : Blk.Good (bn S)
      · exact .inl ⟨h, hf, hg⟩
      · refine .inr ⟨21, by simp, ?_⟩
        unfold blockR
        rw [bn_fst, if_neg (fun hh => hg ((good_take _).1 hh))]
    · rw [if_pos hf]
      exact .inr ⟨40, by simp, rfl⟩
  · rw [if_pos h]
    exact .inr ⟨32, by simp, rfl⟩
theorem openR_sum {S : ByteArray} (h : S.size = 1024) (hf : ¬ Blk.Fits (bn S)) : openR S = (0, 0, ⟨#[]⟩, 40) := by
  unfold openR
  rw [if_neg (fun hh => hh h)]
  exact if_pos hf

theorem wrapR_cases (K G : Int) (P : ByteArray) : (∃ k g : Nat, K = (k : Int) ∧ G = (g : Int) ∧ k ≤ 255 ∧ g ≤ 1152921504606846976 ∧ P.size ≤ 1007 ∧ wrapR K G P = (strOf (Blk.sector k g (bn P)), 0)) ∨ ∃ e : Nat, (e = 1 ∨ e = 61) ∧ wrapR K G P = (⟨#[]⟩, e) := by
  by_cases h : K < 0 ∨ 255 < K ∨ G < 0 ∨ 1152921504606846976 < G
  · exact .inr ⟨1, by simp, wrapR_arg h⟩
  · by_cases hp : 1007 < P.size
    · exact .inr ⟨61, by simp, wrapR_big h hp⟩
    · obtain ⟨k, rfl⟩ := Int.eq_ofNat_of_zero_le (show 0 ≤ K by omega)
      obtain ⟨g, rfl⟩ := Int.eq_ofNat_of_zero_le (show 0 ≤ G by omega)
      exact .inl ⟨k, g, rfl, rfl, by omega, by omega, by omega, wrapR_ok h hp⟩

theorem bn_sector {k g : Nat} {P : ByteArray} (hk : k ≤ 255) (hp : P.size ≤ 1007) : bn (strOf (Blk.sector k g (bn P))) = Blk.sector k g (bn P) :=
  bn_strOf _ (Blk.sector_lt (by omega) (by rw [bn_length]; exact hp) (bn_lt P))
theorem size_sector {k g : Nat} {P : ByteArray} (hp : P.size ≤ 1007) : (strOf (Blk.sector k g (bn P))).size = 1024 := by
  rw [strOf_size, Blk.sector_length _ _ _ (by rw [bn_length]; exact hp)]

/-- what is wrapped opens, and is that block -/
theorem open_wrap {k g : Nat} {P : ByteArray} (hk : k ≤ 255) (hg : g ≤ 1152921504606846976) (hp : P.size ≤ 1007) : openR (strOf (Blk.sector k g (bn P))) = ((k : Int), (g : Int), P, 0) := by
  have hp' : (bn P).length ≤ 1007 := by rw [bn_length]; exact hp
  have hf := Blk.fits_sector k g (bn P) hp'
  have hgd := Blk.good_sector k g (bn P) hp' hg
  rw [openR_ok (size_sector hp) (by rw [bn_sector hk hp]; exact hf) (by rw [bn_sector hk hp]; exact hgd), bn_sector hk hp, Blk.kind_sector, Blk.genOf_sector k g _ (by omega), Blk.payOf_sector, strOf_bn]
/-- what opens is wrapped so -/
theorem wrap_open {S : ByteArray} (h : S.size = 1024) (hf : Blk.Fits (bn S)) (hg : Blk.Good (bn S)) : wrapR (openR S).1 (openR S).2.1 (openR S).2.2.1 = (S, 0) := by
  obtain ⟨h1, h2⟩ := Blk.sector_of (by rw [bn_length]; exact h) (bn_lt S) hf hg
  have hlt := getD_lt (bn_lt S) 2
  have hpl : (strOf (Blk.payOf (bn S))).size ≤ 1007 := by rw [strOf_size, h2]; exact hg.2.1
  rw [openR_ok h hf hg]
  have hgg := hg.2.2.1
  show wrapR (((bn S).getD 2 0 : Nat) : Int) ((Blk.genOf (bn S) : Nat) : Int) (strOf (Blk.payOf (bn S))) = _
  rw [wrapR_ok (by omega) (by omega), Int.toNat_natCast, Int.toNat_natCast, bn_pay, ← h1, strOf_bn]

theorem zeros_out : openR (zeros 1024) = (0, 0, ⟨#[]⟩, 40) := by
  refine openR_sum (by unfold zeros; rw [strOf_size, List.length_replicate]) ?_
  have e : bn (zeros 1024) = List.replicate 1024 0 := bn_zeros 1024
  rw [e]
  exact Blk.zeros_out
/-- turned bits -/
theorem turned_out {k g : Nat} {P S' : ByteArray} (hk : k ≤ 255) (hp : P.size ≤ 1007) (hs : S'.size = 1024) (m at' : Nat) (hm : m < 4294967296) (h0 : m ≠ 0) (hat : at' ≤ 8192)
    (h : Crc.msg (bn S') = Crc.msg (Blk.sector k g (bn P)) ^^^ (m * 2 ^ at')) : openR S' = (0, 0, ⟨#[]⟩, 40) := by
  have hp' : (bn P).length ≤ 1007 := by rw [bn_length]; exact hp
  exact openR_sum hs (Blk.turned_out (Blk.sector_length k g _ hp') (by rw [bn_length]; exact hs) (Blk.sector_lt (by omega) hp' (bn_lt P)) (bn_lt S') (Blk.fits_sector k g _ hp') m at' hm h0 hat h)
end Go.Proofs.YtlmgmdnmghgkbaaGreatDoor.L4

/- The plain mathematics of package pack: fixed and short numbers as lists of bytes, and how they are read. -/
namespace Go.Proofs.YtlmgmdnmghgkbaaGreatDoor.L6.Pk

/-- a fixed number's bytes, the highest first -/
def fixL (n : Nat) : List Nat := [n / 2 ^ 56 % 256, n / 2 ^ 48 % 256, n / 2 ^ 40 % 256, n / 2 ^ 32 % 256, n / 2 ^ 24 % 256, n / 2 ^ 16 % 256, n / 2 ^ 8 % 256, n % 256]
/-- the number of bytes, the highest first -/
def fixN (l : List Nat) : Nat := l.foldl (fun a b => a * 256 + b) 0
theorem fixL_length (n : Nat) : (fixL n).length = 8 := rfl
theorem fixL_lt (n : Nat) : ∀ b ∈ fixL n, b < 256 := by
  intro b hb
  simp only [fixL, List.mem_cons, List.not_mem_nil, or_false] at hb
  rcases hb with rfl | rfl | rfl | rfl | rfl | rfl | rfl | rfl <;> exact Nat.mod_lt _ (by decide)
theorem fixN_fixL (n : Nat) (h : n < 18446744073709551616) : fixN (fixL n) = n := by
  simp only [fixN, fixL, List.foldl_cons, List.foldl_nil]
  omega
theorem fixN_snoc (l : List Nat) (b : Nat) : fixN (l ++ [b]) = fixN l * 256 + b := by simp [fixN]
theorem fold_lt (l : List Nat) (a : Nat) (hl : ∀ b ∈ l, b < 256) : l.foldl (fun a b => a * 256 + b) a < (a + 1) * 256 ^ l.length := by
  induction l generalizing a with
  | nil => simp
  | cons b t ih =>
    rw [List.foldl_cons, List.length_cons, Nat.pow_succ]
    have h1 := ih (a * 256 + b) (fun c hc => hl c (List.mem_cons_of_mem _ hc))
    have h2 := hl b List.mem_cons_self
    have h3 : (a * 256 + b + 1) * 256 ^ t.length ≤ (a + 1) * 256 * 256 ^ t.length := Nat.mul_le_mul_right _ (by omega)
    have h4 : (a + 1) * (256 ^ t.length * 256) = (a + 1) * 256 * 256 ^ t.length := by rw [Nat.mul_comm (256 ^ t.length) 256, Nat.mul_assoc]
    omega
theorem fixN_lt (l : List Nat) (hl : ∀ b ∈ l, b < 256) : fixN l < 256 ^ l.length := by
  have := fold_lt l 0 hl
  simpa [fixN] using this
theorem fixL_fixN (l : List Nat) (h : l.length = 8) (hl : ∀ b ∈ l, b < 256) : fixL (fixN l) = l := by
  match l, h with
  | [a, b, c, d, e, f, g, i], _ =>
    simp only [List.mem_cons, List.not_mem_nil, or_false, forall_eq_or_imp, forall_eq] at hl
    obtain ⟨ha, hb, hc, hd, he, hf, hg, hi⟩ := hl
    simp only [fixN, fixL, List.foldl_cons, List.foldl_nil, List.cons.injEq, and_true]
    omega

/-- a short number's bytes -/
def shF : Nat → Nat → List Nat
  | 0, n => [n % 128]
  | f + 1, n => if n < 128 then [n] else (n % 128 + 128) :: shF f (n / 128)
def shL (n : Nat) : List Nat := shF 9 n
theorem shF_lt (f n : Nat) : ∀ b ∈ shF f n, b < 256 := by
  induction f generalizing n with
  | zero => intro b hb; simp [shF] at hb; omega
  | succ f ih =>
    intro b hb
    unfold shF at hb
    split at hb
    · simp at hb; omega
    · rcases List.mem_cons.1 hb with h | h
      · omega
      · exact ih _ b h
theorem shL_lt (n : Nat) : ∀ b ∈ shL n, b < 256 := shF_lt 9 n
theorem shF_pos (f n : Nat) : 0 < (shF f n).length := by
  cases f with
  | zero => simp [shF]
  | succ f => unfold shF; split <;> simp
theorem shF_le (f n : Nat) : (shF f n).length ≤ f + 1 := by
  induction f generalizing n with
  | zero => simp [shF]
  | succ f ih =>
    unfold shF
    split
    · simp
    · have := ih (n / 128)
      simp only [List.length_cons]
      omega
theorem shL_pos (n : Nat) : 0 < (shL n).length := shF_pos 9 n
theorem shL_le (n : Nat) : (shL n).length ≤ 10 := shF_le 9 n
theorem shF_small (f n : Nat) (h : n < 128) : shF f n = [n] := by
  cases f with
  | zero => simp [shF]; omega
  | succ f => unfold shF; rw [if_pos h]
theorem shF_big (f n : Nat) (h : ¬ n < 128) : shF (f + 1) n = (n % 128 + 128) :: shF f (n / 128) := by
  rw [shF, if_neg h]

/-- a short number at the front: the number, its size, the error -/
def sc : Nat → List Nat → Nat → Nat → Nat × Nat × Nat
  | 0, _, _, _ => (0, 0, 21)
  | _ + 1, [], _, _ => (0, 0, 20)
  | f + 1, b :: t, i, n => if (i = 9 ∧ 1 < b) ∨ (0 < i ∧ b = 0) then (0, 0, 21) else if b < 128 then (n + b * 2 ^ (7 * i), i + 1, 0) else sc f t (i + 1) (n + (b - 128) * 2 ^ (7 * i))
def scan (l : List Nat) : Nat × Nat × Nat := sc 10 l 0 0

theorem pow_step (i : Nat) : 2 ^ (7 * (i + 1)) = 128 * 2 ^ (7 * i) := by
  rw [show 7 * (i + 1) = 7 * i + 7 by omega, Nat.pow_add]
  omega

theorem sc_back (f i m a : Nat) (r : List Nat) (hi : i + f = 9) (hm : m < 2 ^ (7 * f + 1)) (h0 : i = 0 ∨ m ≠ 0) :
    sc (f + 1) (shF f m ++ r) i a = (a + m * 2 ^ (7 * i), i + (shF f m).length, 0) := by
  induction f generalizing i m a with
  | zero =>
    have h1 : m < 2 := by simpa using hm
    rw [shF_small 0 m (by omega)]
    simp only [List.cons_append, List.nil_append, sc, List.length_singleton]
    rw [if_neg (by omega), if_pos (by omega)]
  | succ f ih =>
    by_cases h : m < 128
    · rw [shF_small _ m h]
      simp only [List.cons_append, List.nil_append, List.length_singleton]
      rw [sc, if_neg (by omega), if_pos h]
    · rw [shF_big f m h]
      simp only [List.cons_append, List.length_cons]
      rw [sc, if_neg (by omega), if_neg (by omega)]
      have hm' : m / 128 < 2 ^ (7 * f + 1) := by
        have : 2 ^ (7 * (f + 1) + 1) = 128 * 2 ^ (7 * f + 1) := by rw [show 7 * (f + 1) + 1 = (7 * f + 1) + 7 by omega, Nat.pow_add]; omega
        omega
      rw [ih (i + 1) (m / 128) _ (by omega) hm' (by omega), pow_step]
      generalize 2 ^ (7 * i) = p
      have e : m % 128 + 128 - 128 = m % 128 := by omega
      rw [e]
      have e2 : m * p = m % 128 * p + m / 128 * (128 * p) := by
        have : m = m % 128 + m / 128 * 128 := by omega
        calc m * p = (m % 128 + m / 128 * 128) * p := by rw [← this]
          _ = m % 128 * p + m / 128 * (128 * p) := by rw [Nat.add_mul, Nat.mul_assoc]
      rw [e2]
      refine Prod.ext ?_ (Prod.ext ?_ rfl)
      · show a + m % 128 * p + m / 128 * (128 * p) = a + (m % 128 * p + m / 128 * (128 * p))
        omega
      · show i + 1 + (shF f (m / 128)).length = i + ((shF f (m / 128)).length + 1)
        omega
theorem scan_back (n : Nat) (r : List Nat) (h : n < 18446744073709551616) : scan (shL n ++ r) = (n, (shL n).length, 0) := by
  have := sc_back 9 0 n 0 r rfl (by simpa using h) (.inl rfl)
  simp only [Nat.zero_add, Nat.mul_zero, Nat.pow_zero, Nat.mul_one] at this
  exact this

theorem sc_cut (f i m a j : Nat) (hi : i + f = 9) (hj : j < (shF f m).length) (_h0 : i = 0 ∨ m ≠ 0) : sc (f + 1) ((shF f m).take j) i a = (0, 0, 20) := by
  induction f generalizing i m a j with
  | zero =>
    have : j = 0 := by simp [shF] at hj; omega
    subst this
    rfl
  | succ f ih =>
    cases j with
    | zero => rfl
    | succ j =>
      by_cases h : m < 128
      · rw [shF_small _ m h] at hj
        simp at hj
      · rw [shF_big f m h] at hj ⊢
        simp only [List.length_cons] at hj
        rw [List.take_succ_cons, sc, if_neg (by omega), if_neg (by omega)]
        exact ih (i + 1) (m / 128) _ j (by omega) (by omega) (by omega)
theorem scan_cut (n j : Nat) (h : j < (shL n).length) : scan ((shL n).take j) = (0, 0, 20) := sc_cut 9 0 n 0 j rfl h (.inl rfl)

/-- what is read has just these bytes -/
theorem sc_one (f i a : Nat) (l : List Nat) (hl : ∀ b ∈ l, b < 256) (hi : i + f = 9) :
    (∃ m, sc (f + 1) l i a = (a + m * 2 ^ (7 * i), i + (shF f m).length, 0) ∧ m < 2 ^ (7 * f + 1) ∧ (i = 0 ∨ m ≠ 0) ∧ (shF f m).length ≤ l.length ∧ l.take (shF f m).length = shF f m) ∨
      sc (f + 1) l i a = (0, 0, 20) ∨ sc (f + 1) l i a = (0, 0, 21) := by
  induction f generalizing i a l with
  | zero =>
    cases l with
    | nil => exact .inr (.inl rfl)
    | cons b t =>
      by_cases hw : (i = 9 ∧ 1 < b) ∨ (0 < i ∧ b = 0)
      · exact .inr (.inr (by rw [sc, if_pos hw]))
      · refine .inl ⟨b, ?_⟩
        have hb : b < 2 := by omega
        rw [shF_small 0 b (by omega), sc, if_neg hw, if_pos (by omega)]
        refine ⟨rfl, by simpa using hb, by omega, by simp, by simp⟩
  | succ f ih =>
    cases l with
    | nil => exact .inr (.inl rfl)
    | cons b t =>
      have hb := hl b List.mem_cons_self
      have ht : ∀ c ∈ t, c < 256 := fun c hc => hl c (List.mem_cons_of_mem _ hc)
      have hp : 2 ^ (7 * (f + 1) + 1) = 128 * 2 ^ (7 * f + 1) := by rw [show 7 * (f + 1) + 1 = (7 * f + 1) + 7 by omega, Nat.pow_add]; omega
      have hp1 : 0 < 2 ^ (7 * f + 1) := Nat.pow_pos (by decide)
      by_cases hw : (i = 9 ∧ 1 < b) ∨ (0 < i ∧ b = 0)
      · exact .inr (.inr (by rw [sc, if_pos hw]))
      · by_cases h : b < 128
        · refine .inl ⟨b, ?_⟩
          rw [shF_small _ b h, sc, if_neg hw, if_pos h]
          exact ⟨rfl, by omega, by omega, by simp, by simp⟩
        · rw [sc, if_neg hw, if_neg h]
          rcases ih (i + 1) (a + (b - 128) * 2 ^ (7 * i)) t ht (by omega) with ⟨m, e, hm, h0, hlen, htk⟩ | h20 | h21
          · refine .inl ⟨b - 128 + 128 * m, ?_⟩
            have hbig : ¬ b - 128 + 128 * m < 128 := by omega
            have e1 : (b - 128 + 128 * m) % 128 + 128 = b := by omega
            have e2 : (b - 128 + 128 * m) / 128 = m := by omega
            rw [shF_big f _ hbig, e1, e2, e, pow_step]
            refine ⟨?_, by omega, by omega, by simp only [List.length_cons]; omega, by rw [List.length_cons, List.take_succ_cons, htk]⟩
            generalize 2 ^ (7 * i) = p
            refine Prod.ext ?_ (Prod.ext ?_ rfl)
            · show a + (b - 128) * p + m * (128 * p) = a + (b - 128 + 128 * m) * p
              rw [Nat.add_mul, Nat.mul_comm 128 m, Nat.mul_assoc]
              omega
            · show i + 1 + (shF f m).length = i + ((shF f m).length + 1)
              omega
          · exact .inr (.inl h20)
          · exact .inr (.inr h21)
theorem scan_one (l : List Nat) (hl : ∀ b ∈ l, b < 256) :
    (∃ n, scan l = (n, (shL n).length, 0) ∧ n < 18446744073709551616 ∧ (shL n).length ≤ l.length ∧ l.take (shL n).length = shL n) ∨ scan l = (0, 0, 20) ∨ scan l = (0, 0, 21) := by
  rcases sc_one 9 0 0 l hl rfl with ⟨m, e, hm, _, h1, h2⟩ | h | h
  · refine .inl ⟨m, ?_, by simpa using hm, h1, h2⟩
    simp only [Nat.zero_add, Nat.mul_zero, Nat.pow_zero, Nat.mul_one] at e
    exact e
  · exact .inr (.inl h)
  · exact .inr (.inr h)

theorem shL_inj (a b : Nat) (ha : a < 18446744073709551616) (hb : b < 18446744073709551616) (h : shL a = shL b) : a = b := by
  have h1 := scan_back a [] ha
  have h2 := scan_back b [] hb
  rw [h, h2] at h1
  exact (Prod.ext_iff.1 h1).1.symm
theorem fixL_inj (a b : Nat) (ha : a < 18446744073709551616) (hb : b < 18446744073709551616) (h : fixL a = fixL b) : a = b := by
  have := congrArg fixN h
  rwa [fixN_fixL a ha, fixN_fixL b hb] at this
end Go.Proofs.YtlmgmdnmghgkbaaGreatDoor.L6.Pk

/- Bytes of one's own: a slice that a call makes and appends to, and the text that is made of it. -/
namespace Go.Proofs.YtlmgmdnmghgkbaaGreatDoor.L6
open Go.ChangeShapes Go.WideShapes Go.ChangeAt Go.RowKit

theorem hide {p : Prop} (h : p) : Hid p := h
theorem unhide {p : Prop} (h : Hid p) : p := h
theorem ret_int {k : IntKind} {a b : Int} (h : a = b) : Ending.returned (.int k a) = .returned (.int k b) := by rw [h]

/-- a text's bytes as numbers -/
def bn (s : ByteArray) : List Nat := s.data.toList.map UInt8.toNat
theorem bn_length (s : ByteArray) : (bn s).length = s.size := by
  unfold bn
  rw [List.length_map, Array.length_toList]
  rfl
theorem bn_lt (s : ByteArray) : ∀ b ∈ bn s, b < 256 := by
  intro b hb
  obtain ⟨u, _, rfl⟩ := List.mem_map.1 hb
  exact u.toNat_lt
theorem bn_append (s t : ByteArray) : bn (s ++ t) = bn s ++ bn t := by
  unfold bn
  rw [ByteArray.data_append, Array.toList_append, List.map_append]
theorem bn_inj {s t : ByteArray} (h : bn s = bn t) : s = t := by
  unfold bn at h
  apply ByteArray.ext
  have := (List.map_inj_right (f := UInt8.toNat) (fun a b e => UInt8.toNat_inj.1 e)).1 h
  exact Array.toList_inj.1 this
theorem bn_at (s : ByteArray) (k : Nat) (h : k < s.size) : (bn s)[k]? = some s[k].toNat := by
  simp only [bn, List.getElem?_map]
  rw [List.getElem?_eq_getElem (by rw [Array.length_toList]; exact h)]
  rfl

/-- the text of these bytes -/
def strOf (l : List Nat) : ByteArray := strOfNums (l.map fun n : Nat => (n : Int))
theorem bn_strOf (l : List Nat) (h : ∀ b ∈ l, b < 256) : bn (strOf l) = l := by
  unfold bn strOf
  rw [strOfNums_data, List.map_map, List.map_map]
  refine (List.map_congr_left (g := id) (fun b hb => ?_)).trans (List.map_id l)
  have := h b hb
  simp [Function.comp, Nat.mod_eq_of_lt this]
theorem strOf_size (l : List Nat) : (strOf l).size = l.length := by unfold strOf; rw [strOfNums_size, List.length_map]
theorem strOf_bn (s : ByteArray) : strOf (bn s) = s := bn_inj (bn_strOf _ (bn_lt s))

theorem info5 : (Tryz.prog.info? 5).map (fun i => (i.zero, i.size, i.bytes)) = some (some (.int .u8 0), 1, 1) := by kernel_rfl

def cells (l : List Nat) : List Value := l.map fun n : Nat => Value.int .u8 (n : Int)
theorem cells_length (l : List Nat) : (cells l).length = l.length := by simp [cells]
theorem cells_append (l r : List Nat) : cells (l ++ r) = cells l ++ cells r := by simp [cells]

/-- bytes of one's own: a slice in new memory, which nobody else has -/
def Own (base : Nat) (w : World) (v : Value) (l : List Nat) : Prop := w.ownsRow base 5 1 v l.length (cells l)
theorem below_own {B : Nat} {w wr w1 : World} {v : Value} {l : List Nat} {o : Obj} (hB : B ≤ wr.heap.size) (hb : Below B w wr) (hown : Own B wr v l)
    (hg : (wr.alloc o).grownBy w1 v.ownBlock) : Below B w w1 := by
  refine (hb.alloc hB o).grown hg (by simp; omega) ?_
  intro k hk
  exact (World.ownsRow.lt hown k hk).1

/-- append of one byte to what is one's own, as the walk meets it: the byte stands in a new block -/
theorem app_one {ops : Array Oper} {rest : List Oper} {o : Oper} {a : Act} {Q : Exit → Act → World → Prop} {B : Nat} {w wr : World} {v : Value} {l : List Nat} {b : Nat}
    (hwant : Region.wanted o (yielded ops a.tmps) = true) (s x : Operand) (ho : o.op = .call { callee := .builtin .append, args := #[s, x], argTypes := #[68, 68] })
    (hs : a.eval s = v) (hx : a.eval x = .slice (some ⟨wr.heap.size, 0, none⟩) 1 1) (hB : B ≤ wr.heap.size) (hbel : Below B w wr) (hown : Own B wr v l) (hlen : l.length ≤ 1000)
    (h : ∀ a' cap' w', Own B w' (.slice a' (l.length + 1) cap') (l ++ [b]) → Below B w w' → wpList Tryz.prog ops Q rest (a.put o.dst (.slice a' (l.length + 1) cap')) w') :
    wpList Tryz.prog ops Q (o :: rest) a (wr.alloc (.cells #[.int .u8 (b : Int)] 5)) := by
  obtain ⟨i0, hi, hz0, hz1, hz2⟩ := info_parts info5
  obtain ⟨v', w', hr, ho', hg, _⟩ := run_append_own (P := Tryz.prog) (wr.alloc (.cells #[.int .u8 (b : Int)] 5)) B 68 o.type 5 i0 (.int .u8 0) 1 1 Tryz.underlying68 hi hz0 hz1 hz2 rfl (by decide) v l.length (cells l) (World.ownsRow.alloc hown _) ⟨wr.heap.size, 0, none⟩ 1 1 [.int .u8 (b : Int)] rfl
    (fun j u hj => by
      match j, hj with
      | 0, hj => simp at hj; subst hj; simp [Addr.add])
    (fun u hu => by simp at hu; subst hu; rfl) (by unfold maxLen; omega) (by omega) (by simp; omega)
  have hform : ∃ a' cap', v' = .slice a' (l.length + 1) cap' := by
    rcases ho'.2 with ⟨_, hn⟩ | ⟨g, cap, cur, e, _⟩
    · omega
    · exact ⟨_, _, e⟩
  obtain ⟨a', cap', rfl⟩ := hform
  have ho2 : Own B w' (.slice a' (l.length + 1) cap') (l ++ [b]) := by
    unfold Own
    rw [List.length_append, cells_append]
    exact ho'
  have hb2 : Below B w w' := below_own hB hbel hown hg
  refine BigFrame.wpList_want hwant fun K hK => ?_
  unfold Oper.wp execOp
  simp only [ho, resolve, invoke, builtin, Sem.run_bind, Sem.run_pure, Result.andThen_ok, List.map_toArray, List.map_cons, List.map_nil, hs, hx, hr]
  exact hK _ _ (h a' cap' w' ho2 hb2)

/-- string(b), of what is one's own -/
theorem conv_own {B : Nat} {w : World} {v : Value} {l : List Nat} (h : Own B w v l) : (convert 68 9 v).run Tryz.prog w = .ok (.string (strOf l)) w := by
  have h' := h
  obtain ⟨_, ⟨rfl, hn⟩ | ⟨g, cap, cur, rfl, _⟩⟩ := h
  · obtain rfl := List.length_eq_zero_iff.1 hn
    exact run_convert_bytes_nil w 68 5 Tryz.underlying68 Tryz.underlying5 0 0 9 Tryz.underlying9
  · exact run_convert_bytes_arg w 68 5 Tryz.underlying68 Tryz.underlying5 g 0 l.length cap _ (by simp) (fun i hi => by rw [Nat.zero_add, World.ownsRow.cellAt h' i (by omega)]; simp [cells, List.getElem?_eq_getElem hi]) 9 Tryz.underlying9
/-- string(b), of bytes that lie in a row -/
theorem conv_row (g cap : Nat) (l : List Nat) (w : World) (hc : ∀ i, i < l.length → w.cell? ⟨g, i, none⟩ = some (.int .u8 (l.getD i 0 : Nat))) :
    (convert 68 9 (.slice (some ⟨g, 0, none⟩) l.length cap)).run Tryz.prog w = .ok (.string (strOf l)) w :=
  run_convert_bytes_arg w 68 5 Tryz.underlying68 Tryz.underlying5 g 0 l.length cap _ (by simp) (fun i hi => by rw [Nat.zero_add, hc i hi]; simp [List.getElem?_eq_getElem hi]) 9 Tryz.underlying9
end Go.Proofs.YtlmgmdnmghgkbaaGreatDoor.L6

/- Nodes: what they are, which are right, their bytes (plain mathematics); how they stand in memory. -/
namespace Go.Proofs.YtlmgmdnmghgkbaaGreatDoor.L6
open Go.ChangeShapes Go.WideShapes Go.ChangeAt Go.RowKit

abbrev It := ByteArray × ByteArray
abbrev Kd := ByteArray × Int
structure Nd where
  leaf : Bool
  its : List It
  kds : List Kd

def less (a b : ByteArray) : Bool := Op.bytesLess a.toList b.toList
theorem less_flip (a b : List UInt8) : (Op.bytesLess a b || a == b) = !(Op.bytesLess b a) := by
  induction a generalizing b with
  | nil => cases b <;> rfl
  | cons x s ih =>
    cases b with
    | nil => rfl
    | cons y t =>
      simp only [Op.bytesLess]
      have h := ih t
      rcases (show x < y ∨ x = y ∨ y < x by rw [UInt8.lt_iff_toNat_lt, UInt8.lt_iff_toNat_lt, ← UInt8.toNat_inj]; omega) with hxy | hxy | hxy
      · have h1 : ¬ y < x := fun h => absurd (UInt8.lt_trans hxy h) (UInt8.lt_irrefl _)
        have h2 : (y == x) = false := beq_eq_false_iff_ne.2 (fun e => by subst e; exact UInt8.lt_irrefl _ hxy)
        simp [hxy, h1, h2]
      · subst hxy
        simpa [UInt8.lt_irrefl] using h
      · have h1 : ¬ x < y := fun h => absurd (UInt8.lt_trans hxy h) (UInt8.lt_irrefl _)
        have h2 : (x == y) = false := beq_eq_false_iff_ne.2 (fun e => by subst e; exact UInt8.lt_irrefl _ hxy)
        simp [hxy, h1, h2]
theorem leq_flip (a b : ByteArray) : (Op.bytesLess a.toList b.toList || a.toList == b.toList) = !(less b a) := less_flip _ _

def mayI (x : It) : Bool := decide (0 < x.1.size) && decide (x.1.size ≤ 272) && decide (x.2.size ≤ 160)
def mayK (x : Kd) : Bool := decide (x.1.size ≤ 272) && decide (2 ≤ x.2) && decide (x.2 < 4096)
/-- all of them may be, and the keys rise from one on -/
def rise {β : Type} (may : ByteArray × β → Bool) : Option ByteArray → List (ByteArray × β) → Bool
  | _, [] => true
  | none, x :: t => may x && rise may (some x.1) t
  | some q, x :: t => may x && less q x.1 && rise may (some x.1) t
def before {β : Type} (l : List (ByteArray × β)) : Nat → Option ByteArray
  | 0 => none
  | k + 1 => (l[k]?).map (fun x => x.1)
/-- up to here all is well: the rest decides -/
def Upto {β : Type} (may : ByteArray × β → Bool) (l : List (ByteArray × β)) (k : Nat) : Prop := rise may none l = rise may (before l k) (l.drop k)
theorem drop_get {α : Type} {l : List α} {k : Nat} {x : α} (h : l[k]? = some x) : l.drop k = x :: l.drop (k + 1) := by
  obtain ⟨hk, rfl⟩ := List.getElem?_eq_some_iff.1 h
  exact List.drop_eq_getElem_cons hk
theorem Upto.start {β : Type} (may : ByteArray × β → Bool) (l : List (ByteArray × β)) : Upto may l 0 := rfl
theorem Upto.bad {β : Type} {may : ByteArray × β → Bool} {l : List (ByteArray × β)} {k : Nat} {x : ByteArray × β} (h : Upto may l k) (hx : l[k]? = some x) (hm : may x = false) : rise may none l = false := by
  rw [h, drop_get hx]
  cases before l k <;> simp [rise, hm]
theorem Upto.first {β : Type} {may : ByteArray × β → Bool} {l : List (ByteArray × β)} {x : ByteArray × β} (h : Upto may l 0) (hx : l[0]? = some x) (hm : may x = true) : Upto may l 1 := by
  unfold Upto at *
  rw [h, drop_get hx]
  simp [rise, hm, before, hx]
theorem Upto.falls {β : Type} {may : ByteArray × β → Bool} {l : List (ByteArray × β)} {k : Nat} {x y : ByteArray × β} (h : Upto may l (k + 1)) (hx : l[k + 1]? = some x) (hy : l[k]? = some y) (hl : less y.1 x.1 = false) : rise may none l = false := by
  rw [h, drop_get hx]
  simp [rise, before, hy, hl]
theorem Upto.next {β : Type} {may : ByteArray × β → Bool} {l : List (ByteArray × β)} {k : Nat} {x y : ByteArray × β} (h : Upto may l (k + 1)) (hx : l[k + 1]? = some x) (hy : l[k]? = some y) (hm : may x = true) (hl : less y.1 x.1 = true) : Upto may l (k + 2) := by
  unfold Upto at *
  rw [h, drop_get hx]
  simp [rise, before, hy, hx, hl, hm]
theorem Upto.done {β : Type} {may : ByteArray × β → Bool} {l : List (ByteArray × β)} (h : Upto may l l.length) : rise may none l = true := by
  rw [h, List.drop_length]
  cases before l l.length <;> rfl

def rightB (n : Nd) : Bool := if n.leaf then n.kds.isEmpty && !n.its.isEmpty && rise mayI none n.its else n.its.isEmpty && !n.kds.isEmpty && rise mayK none n.kds

def txL (s : ByteArray) : List Nat := Pk.shL s.size ++ bn s
def itL (x : It) : List Nat := txL x.1 ++ txL x.2
def kdL (x : Kd) : List Nat := txL x.1 ++ Pk.shL x.2.toNat
def ndL (n : Nd) : List Nat := if n.leaf then 1 :: (Pk.shL n.its.length ++ n.its.flatMap itL) else 2 :: (Pk.shL n.kds.length ++ n.kds.flatMap kdL)
def sizeN (n : Nd) : Nat := if rightB n then (ndL n).length else 0
def checkN (n : Nd) : Nat := if rightB n then (if 1007 < (ndL n).length then 61 else 0) else 60
def encodeN (n : Nd) : ByteArray × Nat := if checkN n = 0 then (strOf (ndL n), 0) else (⟨#[]⟩, checkN n)

theorem txL_lt (s : ByteArray) : ∀ b ∈ txL s, b < 256 := by
  intro b hb
  rcases List.mem_append.1 hb with h | h
  · exact Pk.shL_lt _ b h
  · exact bn_lt _ b h
theorem itL_lt (x : It) : ∀ b ∈ itL x, b < 256 := by
  intro b hb
  rcases List.mem_append.1 hb with h | h
  · exact txL_lt _ b h
  · exact txL_lt _ b h
theorem kdL_lt (x : Kd) : ∀ b ∈ kdL x, b < 256 := by
  intro b hb
  rcases List.mem_append.1 hb with h | h
  · exact txL_lt _ b h
  · exact Pk.shL_lt _ b h
theorem flat_lt {α : Type} {f : α → List Nat} (hf : ∀ x, ∀ b ∈ f x, b < 256) (l : List α) : ∀ b ∈ l.flatMap f, b < 256 := by
  intro b hb
  obtain ⟨x, _, h⟩ := List.mem_flatMap.1 hb
  exact hf x b h
theorem ndL_lt (n : Nd) : ∀ b ∈ ndL n, b < 256 := by
  intro b hb
  unfold ndL at hb
  split at hb
  · rcases List.mem_cons.1 hb with h | h
    · omega
    · rcases List.mem_append.1 h with h | h
      · exact Pk.shL_lt _ b h
      · exact flat_lt itL_lt _ b h
  · rcases List.mem_cons.1 hb with h | h
    · omega
    · rcases List.mem_append.1 h with h | h
      · exact Pk.shL_lt _ b h
      · exact flat_lt kdL_lt _ b h

theorem strOf_append (a b : List Nat) : strOf (a ++ b) = strOf a ++ strOf b := by
  apply ByteArray.ext
  unfold strOf
  rw [ByteArray.data_append]
  apply Array.toList_inj.1
  rw [Array.toList_append, strOfNums_data, strOfNums_data, strOfNums_data]
  simp
theorem strOf_txL (s : ByteArray) : strOf (Pk.shL s.size) ++ s = strOf (txL s) := by
  unfold txL
  rw [strOf_append, strOf_bn]
theorem txL_length (s : ByteArray) : (txL s).length ≤ 10 + s.size := by
  unfold txL
  rw [List.length_append, bn_length]
  have := Pk.shL_le s.size
  omega
theorem txL_pos (s : ByteArray) : 0 < (txL s).length := by
  unfold txL
  rw [List.length_append]
  have := Pk.shL_pos s.size
  omega

/-- entries in a row, two cells each -/
def RowAt {β : Type} (sv : β → Value) (w : World) (b off : Nat) (l : List (ByteArray × β)) : Prop :=
  ∀ i x, l[i]? = some x → w.cell? ⟨b, off + i * 2, none⟩ = some (.string x.1) ∧ w.cell? ⟨b, off + i * 2 + 1, none⟩ = some (sv x.2)
def Row {β : Type} (sv : β → Value) (w : World) (a : Option Addr) (l : List (ByteArray × β)) : Prop := l = [] ∨ ∃ b off, a = some ⟨b, off, none⟩ ∧ RowAt sv w b off l
abbrev kv (n : Int) : Value := .int .i64 n
theorem RowAt.grow {β : Type} {sv : β → Value} {w w' : World} {b off : Nat} {l : List (ByteArray × β)} (h : RowAt sv w b off l) (hb : Below w.heap.size w w') : RowAt sv w' b off l := by
  intro i x hx
  obtain ⟨c0, c1⟩ := h i x hx
  exact ⟨(hb.cell (World.block_lt_of_cell? _ _ c0)).trans c0, (hb.cell (World.block_lt_of_cell? _ _ c1)).trans c1⟩
theorem Row.grow {β : Type} {sv : β → Value} {w w' : World} {a : Option Addr} {l : List (ByteArray × β)} (h : Row sv w a l) (hb : Below w.heap.size w w') : Row sv w' a l :=
  h.imp id (fun ⟨b, off, e, hh⟩ => ⟨b, off, e, hh.grow hb⟩)
theorem Row.at {β : Type} {sv : β → Value} {w : World} {a : Option Addr} {l : List (ByteArray × β)} (h : Row sv w a l) {k : Nat} (hk : k < l.length) : ∃ b off, a = some ⟨b, off, none⟩ ∧ RowAt sv w b off l := by
  rcases h with rfl | h
  · simp at hk
  · exact h
theorem get_some {α : Type} {l : List α} {k : Nat} (hk : k < l.length) : ∃ x, l[k]? = some x := ⟨l[k], List.getElem?_eq_getElem hk⟩
/-- a node in memory -/
def Has (w : World) (n : Nd) (ai ak : Option Addr) : Prop := Row Value.string w ai n.its ∧ Row kv w ak n.kds
theorem Has.grow {w w' : World} {n : Nd} {ai ak : Option Addr} (h : Has w n ai ak) (hb : Below w.heap.size w w') : Has w' n ai ak := ⟨h.1.grow hb, h.2.grow hb⟩
theorem cell_keep {w w' : World} {p : Addr} {v : Value} (h : w.cell? p = some v) (hb : Below w.heap.size w w') : w'.cell? p = some v := (hb.cell (World.block_lt_of_cell? _ _ h)).trans h
theorem below_then {W w1 w2 : World} (h : Below W.heap.size W w1) (k : Below w1.heap.size w1 w2) : Below W.heap.size W w2 := h.trans (k.mono h.size)
theorem below_alloc (w : World) (o : Obj) : Below w.heap.size w (w.alloc o) := (Below.refl _ _).alloc (Nat.le_refl _) _
theorem below_drew (w : World) : Below w.heap.size w w.drew := (Below.refl _ _).drew
end Go.Proofs.YtlmgmdnmghgkbaaGreatDoor.L6
