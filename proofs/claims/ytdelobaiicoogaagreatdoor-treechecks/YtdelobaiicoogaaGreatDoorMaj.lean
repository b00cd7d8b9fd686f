/- Texts that the proof needs, one behind the other. -/
import Derived.Test.YtdelobaiicoogaaGreatDoorMai
import Derived.Test.YtdelobaiicoogaaGreatDoorMaa
import Derived.Test.YtdelobaiicoogaaGreatDoorMad
import Derived.Test.YtdelobaiicoogaaGreatDoorRows
import Derived.WalkKit
import Derived.ProofKit
import Derived.OpenShut
import Derived.WalkLawsBesides
import Derived.WalkSpells
import Derived.Outline
import Derived.Deep.AppendLies
import Derived.Laws.BytesArg
import Derived.BigFrame
import Derived.Maps.OwnSet
import Derived.Maps.Ext
import Derived.Shelf.SlMaps.Clone
import Derived.Shelf.SlMaps.Copy
import Derived.Laws.Externs
import Derived.Maps.RangeWalk
import Derived.Laws.IdiomRangeMap
import Derived.Shelf.Pu.Clone
import Derived.Shelf.Strings.Repeat
/- Decode, as the program answers. -/
namespace Go.Proofs.YtdelobaiicoogaaGreatDoor.L6
open Go.ChangeShapes Go.WideShapes Go.ChangeAt Go.RowKit

theorem listR_len {α : Type} {f : ByteArray → Nat → α × ByteArray × Nat} (hf0 : ∀ L, (f L 0).2.2 = 0 → (f L 0).2.1.size + 1 ≤ L.size) (c : Nat) (L : ByteArray) (e : Nat) : (listR f c L e).1.length ≤ L.size + 1 := by
  induction c generalizing L e with
  | zero => simp [listR]
  | succ c ih =>
    by_cases he : e = 0
    · subst he
      rw [listR_next]
      show (listR f c (f L 0).2.1 (f L 0).2.2).1.length + 1 ≤ _
      by_cases h0 : (f L 0).2.2 = 0
      · have h1 := ih (f L 0).2.1 (f L 0).2.2
        have h2 := hf0 L h0
        omega
      · rw [listR_err f c _ _ h0]
        simp
    · rw [listR_err f _ _ _ he]
      simp
theorem readN_its (S : ByteArray) (h : S.size ≤ 1007) : (readN S).1.its.length ≤ 1100 := by
  unfold readN
  split
  · show (countR itemR (byteR S 0).2.1 (byteR S 0).2.2).1.length ≤ _
    have h1 := listR_len itemR_lt (shortR (byteR S 0).2.1 (byteR S 0).2.2).1 (shortR (byteR S 0).2.1 (byteR S 0).2.2).2.1 (shortR (byteR S 0).2.1 (byteR S 0).2.2).2.2
    have h2 := shortR_le (byteR S 0).2.1 (byteR S 0).2.2
    have h3 := byteR_le S 0
    unfold countR
    omega
  · split
    · exact Nat.zero_le _
    · exact Nat.zero_le _
theorem readN_kds (S : ByteArray) (h : S.size ≤ 1007) : (readN S).1.kds.length ≤ 1100 := by
  unfold readN
  split
  · exact Nat.zero_le _
  · split
    · show (countR kidR (byteR S 0).2.1 (byteR S 0).2.2).1.length ≤ _
      have h1 := listR_len kidR_lt (shortR (byteR S 0).2.1 (byteR S 0).2.2).1 (shortR (byteR S 0).2.1 (byteR S 0).2.2).2.1 (shortR (byteR S 0).2.1 (byteR S 0).2.2).2.2
      have h2 := shortR_le (byteR S 0).2.1 (byteR S 0).2.2
      have h3 := byteR_le S 0
      unfold countR
      omega
    · exact Nat.zero_le _

def nd0 : Nd := ⟨false, [], []⟩
/-- THE DOCUMENT's: the node of these bytes, or the error -/
def decodeN (S : ByteArray) : Nd × Nat := if S.size ≤ 1007 ∧ encodeN (readN S).1 = (S, 0) then ((readN S).1, 0) else (nd0, 60)
def DecSaid (T : Nd × Nat) (w : World) (x : Ending) (w' : World) : Prop := ∃ (ai ak : Option Addr) (ci ck : Nat), x = .returned (.tuple #[.agg #[.bool T.1.leaf, .slice ai T.1.its.length ci, .slice ak T.1.kds.length ck], .int .i64 (T.2 : Int)]) ∧ Has w' T.1 ai ak ∧ Below w.heap.size w w'
theorem below_store {a b : World} {B : Nat} (h : Below B a b) (p j : Nat) (u : Value) (hp : B ≤ p) : Below B a (b.setCell ⟨p, j, none⟩ u) := h.setCell hp u
theorem str_neq {A B : ByteArray} (h : A ≠ B) : (A.toList == B.toList) = false := by
  rw [beq_eq_false_iff_ne]
  intro e
  rw [ByteArray.toList_eq, ByteArray.toList_eq] at e
  exact h (ByteArray.ext (Array.toList_inj.1 e))
theorem str_same (A : ByteArray) : (A.toList == A.toList) = true := by simp
theorem read_new (s : ByteArray) (w : World) :
    Calls Tryz.prog 178 #[.string s] w fun x w' => ∃ g, x = .returned (.pointer (some ⟨g, 0, none⟩)) ∧ w.heap.size ≤ g ∧ Rd w' g s 0 ∧ Below w.heap.size w w' := by
  refine (read_any s w).mono ?_
  rintro x w' ⟨rfl, rfl⟩
  exact ⟨_, rfl, Nat.le_refl _, Rd.new w s, (Below.refl _ _).alloc (Nat.le_refl _) _⟩
end Go.Proofs.YtdelobaiicoogaaGreatDoor.L6

/- Plain mathematics of a heap: what the document says of its calls, as functions; how many hold a place. -/
namespace Go.Proofs.YtdelobaiicoogaaGreatDoor

/-- a heap: its disk, its sectors from 2 on, its generation, the kids of each place -/
structure Hp where
  dk : L3.Dk
  al : List L5.St
  gen : Int
  kids : Nat → List Int

def cntL (l : List L5.St) (p : Int) : Nat := L5.cntS (L5.sec 2 l p)
def Hp.cnt (h : Hp) (p : Int) : Nat := cntL h.al p
def kindN (n : L6.Nd) : Nat := if n.leaf then 1 else 2
def places (n : L6.Nd) : List Int := n.kds.map (fun x => x.2)
def setK (f : Nat → List Int) (p : Nat) (l : List Int) : Nat → List Int := fun i => if i = p then l else f i

/-- the node of a sector, its generation, the error -/
def nodeOf (S : ByteArray) : L6.Nd × Int × Int :=
  if (L4.openR S).2.2.2 ≠ 0 then (L6.nd0, 0, 70)
  else if (L6.decodeN (L4.openR S).2.2.1).2 ≠ 0 then (L6.nd0, 0, 70)
  else if (L4.openR S).1 ≠ (kindN (L6.decodeN (L4.openR S).2.2.1).1 : Int) then (L6.nd0, 0, 70)
  else ((L6.decodeN (L4.openR S).2.2.1).1, (L4.openR S).2.1, 0)
def fetchM (d : L3.Dk) (p : Int) : L6.Nd × Int × Int :=
  if (L3.readM d p).2 ≠ 0 then (L6.nd0, 0, (L3.readM d p).2) else nodeOf (L3.readM d p).1
def getR (h : Hp) (p : Int) : L6.Nd × Int := if h.cnt p = 0 then (L6.nd0, 51) else ((fetchM h.dk p).1, (fetchM h.dk p).2.2)

def mayE (l : List L5.St) (ks : List Int) : Int :=
  if ks.any (fun k => decide (cntL l k = 0)) = true then 51 else if ks.any (fun k => decide (5000 < cntL l k + ks.count k)) = true then 52 else 0
def holdAll (l : List L5.St) (ks : List Int) : List L5.St := ks.foldl (fun l k => L5.holdM 2 l k) l
def sectorN (gen : Int) (n : L6.Nd) : ByteArray := (L4.wrapR (kindN n : Int) gen (L6.encodeN n).1).1
/-- a node's sector is taken and written -/
def storeR (h : Hp) (S : ByteArray) : Int × Int × Hp :=
  if L5.takeE h.al ≠ 0 then (0, L5.takeE h.al, h)
  else if L3.writeE h.dk (L5.takeN 2 h.al) S ≠ 0 then
    (0, L3.writeE h.dk (L5.takeN 2 h.al) S, { h with dk := L3.writeM h.dk (L5.takeN 2 h.al) S, al := L5.dropM 2 (L5.takeM h.al h.gen) (L5.takeN 2 h.al) h.gen })
  else (L5.takeN 2 h.al, 0, { h with dk := L3.writeM h.dk (L5.takeN 2 h.al) S, al := L5.takeM h.al h.gen })
def putR (h : Hp) (n : L6.Nd) : Int × Int × Hp :=
  if (L6.encodeN n).2 ≠ 0 then (0, ((L6.encodeN n).2 : Int), h)
  else if mayE h.al (places n) ≠ 0 then (0, mayE h.al (places n), h)
  else if (storeR h (sectorN h.gen n)).2.1 ≠ 0 then (0, (storeR h (sectorN h.gen n)).2.1, (storeR h (sectorN h.gen n)).2.2)
  else ((storeR h (sectorN h.gen n)).1, 0, { (storeR h (sectorN h.gen n)).2.2 with al := holdAll (storeR h (sectorN h.gen n)).2.2.al (places n), kids := setK h.kids (storeR h (sectorN h.gen n)).1.toNat (places n) })
def holdR (h : Hp) (p : Int) : Hp := { h with al := L5.holdM 2 h.al p }

mutual
/-- a place is held, with all below it -/
def loadH : Nat → Hp → Int → Hp × Int
  | 0, h, _ => (h, 0)
  | f + 1, h, p =>
    if p < 2 ∨ (h.dk.old.length : Int) ≤ p then (h, 31)
    else if 0 < h.cnt p then (holdR h p, L5.holdE 2 h.al p)
    else if (fetchM h.dk p).2.2 ≠ 0 then (h, (fetchM h.dk p).2.2)
    else if L5.markE 2 h.al p ≠ 0 then (h, L5.markE 2 h.al p)
    else loadL f { h with al := L5.markM 2 h.al p (fetchM h.dk p).2.1, kids := setK h.kids p.toNat (places (fetchM h.dk p).1) } (places (fetchM h.dk p).1)
def loadL : Nat → Hp → List Int → Hp × Int
  | _, h, [] => (h, 0)
  | f, h, k :: r => if (loadH f h k).2 ≠ 0 then loadH f h k else loadL f (loadH f h k).1 r
end

/-! how many hold a place -/
theorem cnt_upd {l : List L5.St} {p q : Int} {s : L5.St} (hp : L5.In 2 l p) : cntL (L5.upd 2 l p s) q = if q = p then L5.cntS s else cntL l q := by
  unfold cntL
  split
  · rename_i e
    rw [e, L5.sec_upd hp]
  · rename_i e
    rw [L5.sec_upd_ne e]
theorem cnt_in {l : List L5.St} {p : Int} (h : 0 < cntL l p) : L5.In 2 l p := by
  by_cases hi : L5.In 2 l p
  · exact hi
  · unfold cntL at h
    rw [L5.sec_none hi] at h
    exact absurd h (by decide)
theorem cnt_hold (l : List L5.St) (p q : Int) (h0 : 0 < cntL l p) (h1 : cntL l p ≠ 5000) : cntL (L5.holdM 2 l p) q = if q = p then cntL l p + 1 else cntL l q := by
  unfold L5.holdM
  rw [if_neg (show ¬ L5.cntS (L5.sec 2 l p) = 5000 from h1), cnt_upd (cnt_in h0)]
  have e : L5.cntS (L5.holdS (L5.sec 2 l p)) = cntL l p + 1 := by
    unfold cntL at h0 ⊢
    match hs : L5.sec 2 l p with
    | none => rw [hs] at h0; exact absurd h0 (by decide)
    | some (0, g) => rw [hs] at h0; exact absurd h0 (Nat.lt_irrefl 0)
    | some (k + 1, g) => rfl
  rw [e]
theorem length_drop (l : List L5.St) (p g : Int) : (L5.dropM 2 l p g).length = l.length := L5.upd_length _ _ _ _
theorem length_hold (l : List L5.St) (p : Int) : (L5.holdM 2 l p).length = l.length := by
  unfold L5.holdM
  split
  · rfl
  · exact L5.upd_length _ _ _ _
theorem length_holdAll (ks : List Int) (l : List L5.St) : (holdAll l ks).length = l.length := by
  induction ks generalizing l with
  | nil => rfl
  | cons k r ih =>
    show (holdAll (L5.holdM 2 l k) r).length = _
    rw [ih, length_hold]
theorem length_take (l : List L5.St) (g : Int) : (L5.takeM l g).length = l.length := by
  unfold L5.takeM
  split
  · exact List.length_set
  · rfl
/-- the sector that is taken -/
theorem take_at {l : List L5.St} {i : Nat} (h : L5.takeI l = some i) (g : Int) : L5.In 2 l ((2 : Int) + (i : Int)) ∧ L5.sec 2 l ((2 : Int) + (i : Int)) = none ∧ L5.takeM l g = L5.upd 2 l ((2 : Int) + (i : Int)) (some (1, g)) := by
  have h0 := h
  unfold L5.takeI at h
  rw [List.findIdx?_eq_some_iff_getElem] at h
  obtain ⟨hl, hf, _⟩ := h
  have hin : L5.In 2 l ((2 : Int) + (i : Int)) := by unfold L5.In; omega
  refine ⟨hin, ?_, ?_⟩
  · have := L5.sec_of (fr := 2) hl
    rw [show ((2 : Nat) : Int) + (i : Int) = (2 : Int) + (i : Int) from rfl] at this
    rw [this]
    exact (L5.freeS_iff _).1 hf
  · unfold L5.takeM L5.upd
    rw [h0, if_pos hin]
    show l.set i _ = _
    congr 1
    unfold L5.ix
    omega
theorem take_here {l : List L5.St} (h : L5.takeE l = 0) : ∃ i, L5.takeI l = some i ∧ L5.takeN 2 l = (2 : Int) + (i : Int) := by
  unfold L5.takeE at h
  split at h
  · rename_i i hi
    refine ⟨i, hi, ?_⟩
    unfold L5.takeN
    rw [hi]
    rfl
  · exact absurd h (by decide)
end Go.Proofs.YtdelobaiicoogaaGreatDoor

/- Bytes of one's own: a slice that a call makes and appends to, and the text that is made of it. -/
namespace Go.Proofs.YtdelobaiicoogaaGreatDoor.L3
open Go.ChangeShapes Go.WideShapes Go.ChangeAt Go.RowKit

theorem hide {p : Prop} (h : p) : Hid p := h
theorem unhide {p : Prop} (h : Hid p) : p := h
theorem ret_int {k : IntKind} {a b : Int} (h : a = b) : Ending.returned (.int k a) = .returned (.int k b) := by rw [h]

/-- a text's bytes as numbers -/
def bn (s : ByteArray) : List Nat := s.data.toList.map UInt8.toNat
theorem bn_length (s : ByteArray) : (bn s).length = s.size := by
  unfold bn
  rw [List.length_map, Array.length_toList]
  rfl
theorem bn_lt (s : ByteArray) : ∀ b ∈ bn s, b < 256 := by
  intro b hb
  obtain ⟨u, _, rfl⟩ := List.mem_map.1 hb
  exact u.toNat_lt
theorem bn_append (s t : ByteArray) : bn (s ++ t) = bn s ++ bn t := by
  unfold bn
  rw [ByteArray.data_append, Array.toList_append, List.map_append]
theorem bn_inj {s t : ByteArray} (h : bn s = bn t) : s = t := by
  unfold bn at h
  apply ByteArray.ext
  have := (List.map_inj_right (f := UInt8.toNat) (fun a b e => UInt8.toNat_inj.1 e)).1 h
  exact Array.toList_inj.1 this
theorem bn_at (s : ByteArray) (k : Nat) (h : k < s.size) : (bn s)[k]? = some s[k].toNat := by
  simp only [bn, List.getElem?_map]
  rw [List.getElem?_eq_getElem (by rw [Array.length_toList]; exact h)]
  rfl

/-- the text of these bytes -/
def strOf (l : List Nat) : ByteArray := strOfNums (l.map fun n : Nat => (n : Int))
theorem bn_strOf (l : List Nat) (h : ∀ b ∈ l, b < 256) : bn (strOf l) = l := by
  unfold bn strOf
  rw [strOfNums_data, List.map_map, List.map_map]
  refine (List.map_congr_left (g := id) (fun b hb => ?_)).trans (List.map_id l)
  have := h b hb
  simp [Function.comp, Nat.mod_eq_of_lt this]
theorem strOf_size (l : List Nat) : (strOf l).size = l.length := by unfold strOf; rw [strOfNums_size, List.length_map]
theorem strOf_bn (s : ByteArray) : strOf (bn s) = s := bn_inj (bn_strOf _ (bn_lt s))

theorem info5 : (Tryz.prog.info? 5).map (fun i => (i.zero, i.size, i.bytes)) = some (some (.int .u8 0), 1, 1) := by kernel_rfl

def cells (l : List Nat) : List Value := l.map fun n : Nat => Value.int .u8 (n : Int)
theorem cells_append (l r : List Nat) : cells (l ++ r) = cells l ++ cells r := by simp [cells]

/-- bytes of one's own: a slice in new memory, which nobody else has -/
def Own (base : Nat) (w : World) (v : Value) (l : List Nat) : Prop := w.ownsRow base 5 1 v l.length (cells l)
theorem below_own {B : Nat} {w wr w1 : World} {v : Value} {l : List Nat} {o : Obj} (hB : B ≤ wr.heap.size) (hb : Below B w wr) (hown : Own B wr v l)
    (hg : (wr.alloc o).grownBy w1 v.ownBlock) : Below B w w1 := by
  refine (hb.alloc hB o).grown hg (by simp; omega) ?_
  intro k hk
  exact (World.ownsRow.lt hown k hk).1

/-- append of one byte to what is one's own, as the walk meets it: the byte stands in a new block -/
theorem app_one {ops : Array Oper} {rest : List Oper} {o : Oper} {a : Act} {Q : Exit → Act → World → Prop} {B : Nat} {w wr : World} {v : Value} {l : List Nat} {b : Nat}
    (hwant : Region.wanted o (yielded ops a.tmps) = true) (s x : Operand) (ho : o.op = .call { callee := .builtin .append, args := #[s, x], argTypes := #[140, 140] })
    (hs : a.eval s = v) (hx : a.eval x = .slice (some ⟨wr.heap.size, 0, none⟩) 1 1) (hB : B ≤ wr.heap.size) (hbel : Below B w wr) (hown : Own B wr v l) (hlen : l.length ≤ 5000)
    (h : ∀ a' cap' w', Own B w' (.slice a' (l.length + 1) cap') (l ++ [b]) → Below B w w' → wpList Tryz.prog ops Q rest (a.put o.dst (.slice a' (l.length + 1) cap')) w') :
    wpList Tryz.prog ops Q (o :: rest) a (wr.alloc (.cells #[.int .u8 (b : Int)] 5)) := by
  obtain ⟨i0, hi, hz0, hz1, hz2⟩ := info_parts info5
  obtain ⟨v', w', hr, ho', hg, _⟩ := run_append_own (P := Tryz.prog) (wr.alloc (.cells #[.int .u8 (b : Int)] 5)) B 140 o.type 5 i0 (.int .u8 0) 1 1 Tryz.underlying140 hi hz0 hz1 hz2 rfl (by decide) v l.length (cells l) (World.ownsRow.alloc hown _) ⟨wr.heap.size, 0, none⟩ 1 1 [.int .u8 (b : Int)] rfl
    (fun j u hj => by
      match j, hj with
      | 0, hj => simp at hj; subst hj; simp [Addr.add])
    (fun u hu => by simp at hu; subst hu; rfl) (by unfold maxLen; omega) (by omega) (by simp; omega)
  have hform : ∃ a' cap', v' = .slice a' (l.length + 1) cap' := by
    rcases ho'.2 with ⟨_, hn⟩ | ⟨g, cap, cur, e, _⟩
    · omega
    · exact ⟨_, _, e⟩
  obtain ⟨a', cap', rfl⟩ := hform
  have ho2 : Own B w' (.slice a' (l.length + 1) cap') (l ++ [b]) := by
    unfold Own
    rw [List.length_append, cells_append]
    exact ho'
  have hb2 : Below B w w' := below_own hB hbel hown hg
  refine BigFrame.wpList_want hwant fun K hK => ?_
  unfold Oper.wp execOp
  simp only [ho, resolve, invoke, builtin, Sem.run_bind, Sem.run_pure, Result.andThen_ok, List.map_toArray, List.map_cons, List.map_nil, hs, hx, hr]
  exact hK _ _ (h a' cap' w' ho2 hb2)

/-- string(b), of what is one's own -/
theorem conv_own {B : Nat} {w : World} {v : Value} {l : List Nat} (h : Own B w v l) : (convert 140 9 v).run Tryz.prog w = .ok (.string (strOf l)) w := by
  have h' := h
  obtain ⟨_, ⟨rfl, hn⟩ | ⟨g, cap, cur, rfl, _⟩⟩ := h
  · obtain rfl := List.length_eq_zero_iff.1 hn
    exact run_convert_bytes_nil w 140 5 Tryz.underlying140 Tryz.underlying5 0 0 9 Tryz.underlying9
  · exact run_convert_bytes_arg w 140 5 Tryz.underlying140 Tryz.underlying5 g 0 l.length cap _ (by simp) (fun i hi => by rw [Nat.zero_add, World.ownsRow.cellAt h' i (by omega)]; simp [cells, List.getElem?_eq_getElem hi]) 9 Tryz.underlying9
/-- string(b), of bytes that lie in a row -/
theorem conv_row (g cap : Nat) (l : List Nat) (w : World) (hc : ∀ i, i < l.length → w.cell? ⟨g, i, none⟩ = some (.int .u8 (l.getD i 0 : Nat))) :
    (convert 140 9 (.slice (some ⟨g, 0, none⟩) l.length cap)).run Tryz.prog w = .ok (.string (strOf l)) w :=
  run_convert_bytes_arg w 140 5 Tryz.underlying140 Tryz.underlying5 g 0 l.length cap _ (by simp) (fun i hi => by rw [Nat.zero_add, hc i hi]; simp [List.getElem?_eq_getElem hi]) 9 Tryz.underlying9
end Go.Proofs.YtdelobaiicoogaaGreatDoor.L3

/- Sectors in a map: what a map of the program holds, sector by sector. -/
namespace Go.Proofs.YtdelobaiicoogaaGreatDoor.L3
open Go.ChangeShapes Go.WideShapes Go.ChangeAt Go.RowKit Go.Maps

/-- how a sector in a map reads -/
def secR : Value → Option (DataW Unit × List MemPlace)
  | .agg cs => match cs.toList with
    | [.string s] => if s.size ≤ maxLen then some (.lit (.string s.data.toList), []) else none
    | _ => none
  | _ => none
theorem secR_mk {s : ByteArray} (h : s.size ≤ maxLen) : secR (.agg #[.string s]) = some (.lit (.string s.data.toList), []) := by
  simp [secR, h]
theorem secR_inv {v : Value} {z : DataW Unit × List MemPlace} (h : secR v = some z) : ∃ s : ByteArray, v = .agg #[.string s] ∧ z = (.lit (.string s.data.toList), []) ∧ s.size ≤ maxLen := by
  unfold secR at h
  split at h
  · rename_i cs
    split at h
    · rename_i s hs
      split at h
      · rename_i hle
        cases h
        refine ⟨s, ?_, rfl, hle⟩
        rw [← Array.toArray_toList (xs := cs), hs]
      · cases h
    · cases h
  · cases h

theorem law3 : Keyed Tryz.prog 3 := int_keyed Tryz.underlying3
theorem zero71 (w : World) : (zeroValue 223).run Tryz.prog w = .ok (.agg #[.string ByteArray.empty]) w := by kernel_rfl
theorem key3 {n : Int} (h0 : 0 ≤ n) (h1 : n < 4096) : keyOf Tryz.prog 3 (.int .i64 n) = some (.int .i64 n) := keyOf_int_mk Tryz.underlying3 (WalkArith.wf_i64 (by omega))

/-- block b is a map of at most k sectors, and holds these -/
def Sec (w : World) (b k : Nat) (f : Nat → Option ByteArray) : Prop :=
  ∃ D, w.ownsMap Tryz.prog 3 secR b k D ∧ ∀ i : Nat, i < 4096 → (Maps.has D (.int .i64 (i : Int)) = (f i).isSome ∧ ∀ s, f i = some s → ∀ z, D.atKey (.int .i64 (i : Int)) z = .lit (.string s.data.toList))

theorem Sec.lt {w : World} {b k : Nat} {f : Nat → Option ByteArray} (h : Sec w b k f) : b < w.heap.size := by
  obtain ⟨D, h, _⟩ := h
  exact h.lt
theorem Sec.mono {w : World} {b k k' : Nat} {f : Nat → Option ByteArray} (h : Sec w b k f) (hk : k ≤ k') : Sec w b k' f := by
  obtain ⟨D, h, r⟩ := h
  exact ⟨D, h.mono hk, r⟩
theorem Sec.same {w w' : World} {b k : Nat} {f : Nat → Option ByteArray} (h : Sec w b k f) (hb : w'.heap[b]? = w.heap[b]?) : Sec w' b k f := by
  obtain ⟨D, ⟨es, clock, h1, r1⟩, r⟩ := h
  exact ⟨D, ⟨es, clock, hb.trans h1, r1⟩, r⟩
theorem Sec.kind {w : World} {b k : Nat} {f : Nat → Option ByteArray} (h : Sec w b k f) : ∃ es clock, w.heap[b]? = some (.map es clock) := by
  obtain ⟨D, ⟨es, clock, h1, _⟩, _⟩ := h
  exact ⟨es, clock, h1⟩
theorem Sec.made (w : World) : Sec (w.alloc (.map #[] 0)) w.heap.size 0 (fun _ => none) :=
  ⟨_, World.ownsMap_made w Tryz.prog 3 secR, fun i _ => ⟨rfl, fun s h => by cases h⟩⟩

theorem data_inj {s t : ByteArray} (h : s.data.toList = t.data.toList) : s = t := ByteArray.ext (Array.toList_inj.1 h)

/-- a sector that is there -/
theorem Sec.look {w : World} {b k : Nat} {f : Nat → Option ByteArray} (h : Sec w b k f) {n : Int} (h0 : 0 ≤ n) (h1 : n < 4096) {s : ByteArray} (hf : f n.toNat = some s) :
    (Instr.lookup 136 (.map (some b)) (.int .i64 n) true).run Tryz.prog w = .ok (.tuple #[.agg #[.string s], .bool true]) w := by
  obtain ⟨D, hown, hr⟩ := h
  obtain ⟨v, ps, hrun, hv⟩ := hown.look_ok law3 Tryz.underlying136 (zero71 w) (secR_mk (s := ByteArray.empty) (by decide)) (key3 h0 h1)
  have e : ((n.toNat : Nat) : Int) = n := Int.toNat_of_nonneg h0
  have h2 := hr n.toNat (by omega)
  rw [e] at h2
  obtain ⟨t, rfl, ht, _⟩ := secR_inv hv
  rw [h2.2 s hf] at ht
  have ht1 : s.data.toList = t.data.toList := congrArg (fun z => match z.1 with | DataW.lit (.string l) => l | _ => []) ht
  rw [hrun, h2.1, hf, data_inj ht1]
  rfl
theorem Sec.look_none {w : World} {b k : Nat} {f : Nat → Option ByteArray} (h : Sec w b k f) {n : Int} (h0 : 0 ≤ n) (h1 : n < 4096) (hf : f n.toNat = none) :
    (Instr.lookup 136 (.map (some b)) (.int .i64 n) true).run Tryz.prog w = .ok (.tuple #[.agg #[.string ByteArray.empty], .bool false]) w := by
  obtain ⟨D, hown, hr⟩ := h
  obtain ⟨v, ps, hrun, hv⟩ := hown.look_ok law3 Tryz.underlying136 (zero71 w) (secR_mk (s := ByteArray.empty) (by decide)) (key3 h0 h1)
  have e : ((n.toNat : Nat) : Int) = n := Int.toNat_of_nonneg h0
  have h2 := hr n.toNat (by omega)
  rw [e, hf] at h2
  have hn : Maps.has D (.int .i64 n) = false := h2.1
  obtain ⟨t, rfl, ht, _⟩ := secR_inv hv
  rw [Maps.atKey_of_not_has hn] at ht
  have ht1 : ByteArray.empty.data.toList = t.data.toList := congrArg (fun z => match z.1 with | DataW.lit (.string l) => l | _ => []) ht
  rw [hrun, hn, ← data_inj ht1]

def put (f : Nat → Option ByteArray) (n : Nat) (s : ByteArray) : Nat → Option ByteArray := fun i => if i = n then some s else f i

theorem Sec.store {w : World} {b k : Nat} {f : Nat → Option ByteArray} (h : Sec w b k f) {n : Int} (h0 : 0 ≤ n) (h1 : n < 4096) (s : ByteArray) (hs : s.size ≤ maxLen) (hk : k < maxLen) :
    ∃ w', (Instr.mapUpdate 136 (.map (some b)) (.int .i64 n) (.agg #[.string s])).run Tryz.prog w = .ok () w' ∧ Sec w' b (k + 1) (put f n.toNat s) ∧ w.grownBy w' (some b) := by
  obtain ⟨D, hown, hr⟩ := h
  obtain ⟨w', hrun, hown', hg⟩ := hown.update law3 Tryz.underlying136 hk (key3 h0 h1) (secR_mk hs)
  refine ⟨w', hrun, ⟨_, hown', fun i hi => ?_⟩, hg⟩
  have e : ((n.toNat : Nat) : Int) = n := Int.toNat_of_nonneg h0
  unfold put
  by_cases hin : i = n.toNat
  · subst hin
    rw [e, if_pos rfl]
    refine ⟨by rw [Maps.has_put_same hown.isMap (law3.key (key3 h0 h1))]; rfl, fun t ht z => ?_⟩
    cases ht
    exact Maps.atKey_put_same hown.isMap (law3.key (key3 h0 h1)) _ _
  · rw [if_neg hin]
    have hne : Lit.int .i64 (i : Int) ≠ Lit.int .i64 n := by
      intro e'
      simp at e'
      omega
    rw [Maps.has_put_other hne]
    refine ⟨(hr i hi).1, fun t ht z => ?_⟩
    rw [Maps.atKey_put_other hne]
    exact (hr i hi).2 t ht z

end Go.Proofs.YtdelobaiicoogaaGreatDoor.L3

/- A map of sectors cloned, and one copied into another. -/
namespace Go.Proofs.YtdelobaiicoogaaGreatDoor.L3
open Go.ChangeShapes Go.WideShapes Go.ChangeAt Go.RowKit Go.Maps

/-- one map's sectors over another's -/
def over (f g : Nat → Option ByteArray) : Nat → Option ByteArray := fun i => match g i with | some s => some s | none => f i

end Go.Proofs.YtdelobaiicoogaaGreatDoor.L3

/- What the copy of a text is: the same bytes (the library's own contract of that function, laid at this program's numbers). -/
namespace Go.Proofs.YtdelobaiicoogaaGreatDoor.L3
open Go.ChangeShapes Go.WideShapes Go.ChangeAt Go.RowKit Go.Shelf

/-- the shelf's numbers, as this program has them -/
def ren : Ren := ⟨fun n => if n = 25 then 139 else n, fun n => if n = 37 then 140 else if n = 47 then 287 else n, fun n => n⟩
theorem lays : LaysPu.n25 Tryz.prog ren where
  mixed := by kernel_rfl
  f25 := by kernel_rfl
  t0 := by kernel_rfl
  a0 := fun _ => by kernel_rfl
  z0 := fun _ => by kernel_rfl
  v0 := fun _ => by kernel_rfl
  i0 := by kernel_rfl
  t3 := by kernel_rfl
  a3 := fun _ => by kernel_rfl
  z3 := fun _ => by kernel_rfl
  v3 := fun _ => by kernel_rfl
  i3 := by kernel_rfl
  t4 := by kernel_rfl
  a4 := fun _ => by kernel_rfl
  z4 := fun _ => by kernel_rfl
  v4 := fun _ => by kernel_rfl
  i4 := by kernel_rfl
  t5 := by kernel_rfl
  a5 := fun _ => by kernel_rfl
  z5 := fun _ => by kernel_rfl
  v5 := fun _ => by kernel_rfl
  i5 := by kernel_rfl
  t9 := by kernel_rfl
  a9 := fun _ => by kernel_rfl
  z9 := fun _ => by kernel_rfl
  v9 := fun _ => by kernel_rfl
  i9 := by kernel_rfl
  t37 := by kernel_rfl
  a37 := fun _ => by kernel_rfl
  z37 := fun _ => by kernel_rfl
  v37 := fun _ => by kernel_rfl
  i37 := by kernel_rfl
  t47 := by kernel_rfl
  a47 := fun _ => by kernel_rfl
  z47 := fun _ => by kernel_rfl
  v47 := fun _ => by kernel_rfl
  i47 := by kernel_rfl

theorem sclone_any (s : ByteArray) (w : World) (hlim : s.size ≤ 1000000) :
    Calls Tryz.prog 139 #[.string s] w fun e w' => e = .returned (.string s) ∧ Below w.heap.size w w' :=
  AnyPu.stringslite_Clone lays s w (by omega)

set_option maxHeartbeats 400000 in
theorem clone_any (s : ByteArray) (w : World) (hlim : s.size ≤ 1000000) :
    Calls Tryz.prog 106 #[.string s] w fun e w' => e = .returned (.string s) ∧ Below w.heap.size w w' := by
  go_enter Tryz.func106, Tryz.ntmps106
  go_wp2_with (go_at_call 139; refine (sclone_any _ _ hlim).mono ?_; rintro e w' ⟨rfl, hb⟩)
  go_ret
  exact ⟨rfl, hb⟩
end Go.Proofs.YtdelobaiicoogaaGreatDoor.L3

/- Zeros by repetition: the library's own contract of that function, laid at this program's numbers. -/
namespace Go.Proofs.YtdelobaiicoogaaGreatDoor.L3
open Go.Shelf
def lays105_ren : Go.Shelf.Ren := ⟨fun | 105 => 100 | 212 => 132 | 99 => 133 | 165 => 134 | 166 => 135 | 170 => 136 | 169 => 137 | 263 => 164 | 264 => 165 | 206 => 166 | 240 => 167 | 241 => 168 | 276 => 201 | 277 => 202 | n => n, fun | 9 => 9 | 3 => 3 | 4 => 4 | 20 => 20 | 0 => 0 | 46 => 158 | 109 => 247 | 5 => 5 | 72 => 251 | 76 => 254 | 51 => 161 | 146 => 283 | 53 => 160 | 148 => 285 | 70 => 249 | 37 => 140 | 75 => 253 | 127 => 287 | 164 => 321 | 80 => 67 | n => n, fun | n => n⟩
theorem lays105 : Go.Proofs.Lays.n105 Tryz.prog lays105_ren := {
  mixed := by kernel_rfl
  f99 := Tryz.func133.trans (congrArg some (by kernel_rfl))
  f105 := Tryz.func100.trans (congrArg some (by kernel_rfl))
  f165 := Tryz.func134.trans (congrArg some (by kernel_rfl))
  f166 := Tryz.func135.trans (congrArg some (by kernel_rfl))
  f169 := Tryz.func137.trans (congrArg some (by kernel_rfl))
  f170 := Tryz.func136.trans (congrArg some (by kernel_rfl))
  f206 := Tryz.func166.trans (congrArg some (by kernel_rfl))
  f212 := Tryz.func132.trans (congrArg some (by kernel_rfl))
  f240 := Tryz.func167.trans (congrArg some (by kernel_rfl))
  f241 := Tryz.func168.trans (congrArg some (by kernel_rfl))
  f263 := Tryz.func164.trans (congrArg some (by kernel_rfl))
  f264 := Tryz.func165.trans (congrArg some (by kernel_rfl))
  f276 := Tryz.func201.trans (congrArg some (by kernel_rfl))
  f277 := Tryz.func202.trans (congrArg some (by kernel_rfl))
  t0 := Tryz.underlying0
  a0 := Tryz.isAgg0
  z0 := Tryz.sizeOf0
  v0 := Tryz.zeroValue0
  t3 := Tryz.underlying3
  a3 := Tryz.isAgg3
  z3 := Tryz.sizeOf3
  v3 := Tryz.zeroValue3
  t4 := Tryz.underlying4
  a4 := Tryz.isAgg4
  z4 := Tryz.sizeOf4
  v4 := Tryz.zeroValue4
  t5 := Tryz.underlying5
  a5 := Tryz.isAgg5
  z5 := Tryz.sizeOf5
  v5 := Tryz.zeroValue5
  t9 := Tryz.underlying9
  a9 := Tryz.isAgg9
  z9 := Tryz.sizeOf9
  v9 := Tryz.zeroValue9
  t20 := Tryz.underlying20
  a20 := Tryz.isAgg20
  z20 := Tryz.sizeOf20
  v20 := Tryz.zeroValue20
  t37 := Tryz.underlying140
  a37 := Tryz.isAgg140
  z37 := Tryz.sizeOf140
  v37 := Tryz.zeroValue140
  t46 := Tryz.underlying158
  a46 := Tryz.isAgg158
  z46 := Tryz.sizeOf158
  v46 := Tryz.zeroValue158
  t51 := Tryz.underlying161
  a51 := Tryz.isAgg161
  z51 := Tryz.sizeOf161
  v51 := Tryz.zeroValue161
  t53 := Tryz.underlying160
  a53 := Tryz.isAgg160
  z53 := Tryz.sizeOf160
  v53 := Tryz.zeroValue160
  t70 := Tryz.underlying249
  a70 := Tryz.isAgg249
  z70 := Tryz.sizeOf249
  v70 := Tryz.zeroValue249
  t72 := Tryz.underlying251
  a72 := Tryz.isAgg251
  z72 := Tryz.sizeOf251
  v72 := Tryz.zeroValue251
  t75 := Tryz.underlying253
  a75 := Tryz.isAgg253
  z75 := Tryz.sizeOf253
  v75 := Tryz.zeroValue253
  t76 := Tryz.underlying254
  a76 := Tryz.isAgg254
  z76 := Tryz.sizeOf254
  v76 := Tryz.zeroValue254
  t109 := Tryz.underlying247
  a109 := Tryz.isAgg247
  z109 := Tryz.sizeOf247
  v109 := Tryz.zeroValue247
  t127 := Tryz.underlying287
  a127 := Tryz.isAgg287
  z127 := Tryz.sizeOf287
  v127 := Tryz.zeroValue287
  t146 := Tryz.underlying283
  a146 := Tryz.isAgg283
  z146 := Tryz.sizeOf283
  v146 := Tryz.zeroValue283
  t148 := Tryz.underlying285
  a148 := Tryz.isAgg285
  z148 := Tryz.sizeOf285
  v148 := Tryz.zeroValue285
  t164 := Tryz.underlying321
  a164 := Tryz.isAgg321
  z164 := Tryz.sizeOf321
  v164 := Tryz.zeroValue321 }
theorem builderExtra : Builder.Extra Tryz.prog lays105_ren := {
  sizeBuilder := by kernel_rfl
  liesBuilder := by kernel_rfl
  t5 := Tryz.underlying5
  a5 := Tryz.isAgg5
  z5 := Tryz.sizeOf5
  v5 := Tryz.zeroValue5
  infoByte := by kernel_rfl
  cellsByte := by kernel_rfl
  sizeByte := by kernel_rfl
  neB5 := by decide }
open Go.RowKit Go.Lib in
/-- THE MAIN CASE: at least two copies of a string that is not empty. (LAID: no walk: one application.) -/
theorem repeat_main (s : ByteArray) (c : Nat) (w : World) (hc2 : 2 ≤ c) (hc : c ≤ 9223372036854775807) (hlen : s.size * c ≤ 140737488355328) (h0 : 0 < s.size) :
    Calls Tryz.prog 100 #[.string s, .int .i64 c] w fun e w' => e = .returned (.string ⟨(Lib.repeatL s.data.toList c).toArray⟩) ∧ Below w.heap.size w w' := Any.strings_Repeat_main lays105 builderExtra s c w hc2 hc hlen h0

/-- a sector's zeros -/
def zeros : ByteArray := ⟨(List.replicate 1024 (0 : UInt8)).toArray⟩
theorem zeros_size : zeros.size = 1024 := by
  show (List.replicate 1024 (0 : UInt8)).toArray.size = 1024
  rw [List.size_toArray, List.length_replicate]

theorem repeatL_one (x : UInt8) : ∀ n, Lib.repeatL [x] n = List.replicate n x
  | 0 => rfl
  | n + 1 => by
    unfold Lib.repeatL
    rw [repeatL_one x n]
    rfl

open Go.RowKit in
theorem zeros_any (w : World) : Calls Tryz.prog 100 #[.string ⟨#[0]⟩, .int .i64 1024] w fun e w' => e = .returned (.string zeros) ∧ Below w.heap.size w w' := by
  refine (repeat_main ⟨#[0]⟩ 1024 w (by omega) (by omega) (by decide) (by decide)).mono ?_
  rintro e w' ⟨rfl, hb⟩
  refine ⟨?_, hb⟩
  show Ending.returned (.string ⟨(Lib.repeatL [0] 1024).toArray⟩) = _
  rw [repeatL_one]
  rfl
end Go.Proofs.YtdelobaiicoogaaGreatDoor.L3
