/- Texts that the proof needs, one behind the other. -/
import Derived.Test.YtdelobaiicoogaaGreatDoorMax
import Derived.Deep.RegionHeld3
import Derived.RangeFuncBox
import Derived.Maps.AppendAt
import Derived.Test.YtdelobaiicoogaaGreatDoorMaq
import Derived.Test.YtdelobaiicoogaaGreatDoorMas
import Derived.Test.YtdelobaiicoogaaGreatDoorMav
/- What is got is right; the way down to a key, as a function. -/
namespace Go.Proofs.YtdelobaiicoogaaGreatDoor
open Go.ChangeShapes Go.WideShapes Go.ChangeAt Go.RowKit

theorem decode_right {S : ByteArray} (h : (L6.decodeN S).2 = 0) : L6.rightB (L6.decodeN S).1 = true ∧ (L6.ndL (L6.decodeN S).1).length ≤ 1007 := by
  unfold L6.decodeN at h ⊢
  by_cases hc : S.size ≤ 1007 ∧ L6.encodeN (L6.readN S).1 = (S, 0)
  · rw [if_pos hc]
    have h1 := (enc_ok (n := (L6.readN S).1) (by rw [hc.2])).1
    refine ⟨L6.checkN_right h1, ?_⟩
    unfold L6.checkN at h1
    rw [if_pos (L6.checkN_right (by unfold L6.checkN; exact h1))] at h1
    by_cases hb : 1007 < (L6.ndL (L6.readN S).1).length
    · rw [if_pos hb] at h1; omega
    · show (L6.ndL (L6.readN S).1).length ≤ 1007
      omega
  · rw [if_neg hc] at h
    exact absurd h (by decide)
theorem nodeOf_right {S : ByteArray} (h : (nodeOf S).2.2 = 0) : L6.rightB (nodeOf S).1 = true ∧ (L6.ndL (nodeOf S).1).length ≤ 1007 := by
  unfold nodeOf at h ⊢
  split at h
  · exact absurd h (by decide)
  · rename_i h1
    rw [if_neg h1]
    split at h
    · exact absurd h (by decide)
    · rename_i h2
      rw [if_neg h2]
      split at h
      · exact absurd h (by decide)
      · rename_i h3
        rw [if_neg h3]
        exact decode_right (Decidable.not_not.1 h2)
theorem getR_right {h : Hp} {q : Int} (he : (getR h q).2 = 0) : L6.rightB (getR h q).1 = true ∧ (L6.ndL (getR h q).1).length ≤ 1007 := by
  unfold getR at he ⊢
  split at he
  · exact absurd he (by decide)
  · rename_i h1
    rw [if_neg h1]
    simp only at he ⊢
    unfold fetchM at he ⊢
    split at he
    · rename_i h2
      exact absurd he h2
    · rename_i h2
      rw [if_neg h2]
      exact nodeOf_right he
/-- a node with kids has one, and nothing else -/
theorem right_kids {n : L6.Nd} (h : L6.rightB n = true) (hl : n.leaf = false) : n.its = [] ∧ n.kds ≠ [] ∧ ∀ x ∈ n.kds, L6.mayK x = true := by
  unfold L6.rightB at h
  rw [hl] at h
  simp only [Bool.false_eq_true, if_false, Bool.and_eq_true] at h
  refine ⟨List.isEmpty_iff.1 h.1.1, ?_, rise_all _ _ h.2⟩
  intro e
  rw [e] at h
  exact absurd h.1.2 (by decide)
/-- where a kid is -/
def kidP (n : L6.Nd) (i : Nat) : Int := match n.kds[i]? with
  | some k => k.2
  | none => 0
/-- the nodes with kids on the way down to a key, each with the kid by which it goes on, and where the way ends -/
def wayR (h : Hp) (key : ByteArray) : Nat → Int → List (L6.Nd × Nat) × L6.Nd × Int
  | 0, _ => ([], L6.nd0, 80)
  | f + 1, x => if (getR h x).2 ≠ 0 ∨ (getR h x).1.leaf = true then ([], getR h x) else
      let r := wayR h key f (kidP (getR h x).1 (kidN (getR h x).1 key))
      (((getR h x).1, kidN (getR h x).1 key) :: r.1, r.2)
theorem wayR_on {h : Hp} {key : ByteArray} {f : Nat} {x : Int} (he : (getR h x).2 = 0) (hl : (getR h x).1.leaf = false) :
    wayR h key (f + 1) x = (((getR h x).1, kidN (getR h x).1 key) :: (wayR h key f (kidP (getR h x).1 (kidN (getR h x).1 key))).1, (wayR h key f (kidP (getR h x).1 (kidN (getR h x).1 key))).2) := by
  rw [wayR, if_neg]
  rintro (h1 | h1)
  · exact h1 he
  · rw [hl] at h1
    cases h1
theorem row_keep {β : Type} {sv : β → Value} {w w' : World} {a : Option Addr} {l : List (ByteArray × β)} (h : L6.Row sv w a l) (hb : ∀ x, a = some x → l ≠ [] → w'.heap[x.block]? = w.heap[x.block]?) : L6.Row sv w' a l := by
  by_cases hl : l = []
  · exact .inl hl
  rcases h with h | ⟨b, off, rfl, hr⟩
  · exact .inl h
  · have e := hb _ rfl hl
    refine .inr ⟨b, off, rfl, fun i x hx => ?_⟩
    obtain ⟨h1, h2⟩ := hr i x hx
    have ec : ∀ o, w'.cell? ⟨b, o, none⟩ = w.cell? ⟨b, o, none⟩ := fun o => by
      simp only at e
      simp [World.cell?, e]
    exact ⟨(ec _).trans h1, (ec _).trans h2⟩
/-- a step of the way in memory -/
structure Ws where
  n : L6.Nd
  ai : Option Addr
  ci : Nat
  ak : Option Addr
  ck : Nat
  at' : Nat
def wsL (s : Ws) : List Value := [.bool s.n.leaf, .slice s.ai s.n.its.length s.ci, .slice s.ak s.n.kds.length s.ck, .int .i64 (s.at' : Int)]
/-- a row of steps of one's own: what each has lies elsewhere -/
structure IsWay (B : Nat) (w : World) (v : Value) (ss : List Ws) : Prop where
  row : w.ownsRow B 173 4 v ss.length (ss.flatMap wsL)
  has : ∀ s ∈ ss, L6.Has w s.n s.ai s.ak ∧ (s.n.its.length ≤ s.ci ∧ s.n.kds.length ≤ s.ck)
  aside : ∀ s ∈ ss, (∀ a, s.ai = some a → s.n.its ≠ [] → v.ownBlock ≠ some a.block ∧ a.block < w.heap.size) ∧ (∀ a, s.ak = some a → s.n.kds ≠ [] → v.ownBlock ≠ some a.block ∧ a.block < w.heap.size)
theorem IsWay.nil (B : Nat) (w : World) : IsWay B w (.slice none 0 0) [] := ⟨World.ownsRow_nil _ _ _ _, fun _ h => (by cases h), fun _ h => (by cases h)⟩
theorem IsWay.grow {B : Nat} {w w' : World} {v : Value} {ss : List Ws} (h : IsWay B w v ss) (hb : Below w.heap.size w w') : IsWay B w' v ss :=
  ⟨L6.ownsRow_same h.row (fun g hg => hb.block g (World.ownsRow.lt h.row g hg).2), fun s hs => ⟨(h.has s hs).1.grow hb, (h.has s hs).2⟩,
    fun s hs => ⟨fun a e l => ⟨((h.aside s hs).1 a e l).1, Nat.lt_of_lt_of_le ((h.aside s hs).1 a e l).2 hb.size⟩, fun a e l => ⟨((h.aside s hs).2 a e l).1, Nat.lt_of_lt_of_le ((h.aside s hs).2 a e l).2 hb.size⟩⟩⟩
/-- one step more -/
theorem IsWay.app {B : Nat} {W w1 : World} {v v' : Value} {ss : List Ws} {s : Ws} {tmp : Obj} (h : IsWay B W v ss) (hs : L6.Has W s.n s.ai s.ak) (hc : s.n.its.length ≤ s.ci ∧ s.n.kds.length ≤ s.ck)
    (ha : (∀ a, s.ai = some a → s.n.its ≠ [] → v.ownBlock ≠ some a.block ∧ a.block < W.heap.size) ∧ (∀ a, s.ak = some a → s.n.kds ≠ [] → v.ownBlock ≠ some a.block ∧ a.block < W.heap.size))
    (hown' : w1.ownsRow B 173 4 v' (ss.length + 1) (ss.flatMap wsL ++ wsL s)) (hgrow : (W.alloc tmp).grownBy w1 v.ownBlock) (hat : v'.ownBlock = v.ownBlock ∨ v'.ownBlock = some (W.alloc tmp).heap.size) : IsWay B w1 v' (ss ++ [s]) := by
  have hsz : W.heap.size ≤ w1.heap.size := by have := hgrow.size; rw [World.size_alloc] at this; omega
  have hk : ∀ g, g < W.heap.size → v.ownBlock ≠ some g → w1.heap[g]? = W.heap[g]? := fun g h1 h2 => (hgrow.block g (by rw [World.size_alloc]; omega) (fun e => h2 e.symm)).trans (Below.heap_alloc _ _ _ h1)
  have hn : ∀ g, g < W.heap.size → v.ownBlock ≠ some g → v'.ownBlock ≠ some g := fun g h1 h2 => by
    rcases hat with e | e
    · rw [e]; exact h2
    · rw [e, World.size_alloc]; intro e'; injection e' with e'; omega
  have hall : ∀ t ∈ ss ++ [s], (L6.Has W t.n t.ai t.ak ∧ (t.n.its.length ≤ t.ci ∧ t.n.kds.length ≤ t.ck)) ∧ (∀ a, t.ai = some a → t.n.its ≠ [] → v.ownBlock ≠ some a.block ∧ a.block < W.heap.size) ∧ (∀ a, t.ak = some a → t.n.kds ≠ [] → v.ownBlock ≠ some a.block ∧ a.block < W.heap.size) := by
    intro t ht
    rcases List.mem_append.1 ht with ht | ht
    · exact ⟨h.has t ht, h.aside t ht⟩
    · rw [List.mem_singleton] at ht
      subst ht
      exact ⟨⟨hs, hc⟩, ha⟩
  refine ⟨by rw [List.length_append, List.flatMap_append]; simpa using hown', fun t ht => ?_, fun t ht => ?_⟩
  · obtain ⟨⟨h1, h2⟩, h3, h4⟩ := hall t ht
    exact ⟨⟨row_keep h1.1 (fun a e l => hk _ (h3 a e l).2 (h3 a e l).1), row_keep h1.2 (fun a e l => hk _ (h4 a e l).2 (h4 a e l).1)⟩, h2⟩
  · obtain ⟨_, h3, h4⟩ := hall t ht
    exact ⟨fun a e l => ⟨hn _ (h3 a e l).2 (h3 a e l).1, Nat.lt_of_lt_of_le (h3 a e l).2 hsz⟩, fun a e l => ⟨hn _ (h4 a e l).2 (h4 a e l).1, Nat.lt_of_lt_of_le (h4 a e l).2 hsz⟩⟩
end Go.Proofs.YtdelobaiicoogaaGreatDoor

/- The way down to a key, of any tree. -/
namespace Go.Proofs.YtdelobaiicoogaaGreatDoor
open Go.ChangeShapes Go.WideShapes Go.ChangeAt Go.RowKit
attribute [local go_sem] Oper.semAt_some
variable {w w' : World} {p d : Nat} {h : Hp} {c : Nat} {F : List Nat}

theorem IsWay.base {B B' : Nat} {w : World} {v : Value} {ss : List Ws} (h : IsWay B w v ss) (hB : B' ≤ B) : IsWay B' w v ss := ⟨L6.ownsRow_base h.row hB, h.has, h.aside⟩
theorem IsWay.set {B : Nat} {w : World} {v : Value} {ss : List Ws} {P : Nat} {L : Bool} {ai ak : Option Addr} {il ci kl ck : Nat} (h : IsWay B w v ss) (hN : L6.Nblk w P L ai il ci ak kl ck) (hP : P < B) (j : Nat) (u : Value) : IsWay B (w.setCell ⟨P, j, none⟩ u) v ss := by
  have hsz : (w.setCell ⟨P, j, none⟩ u).heap.size = w.heap.size := by simp [World.setCell]
  refine ⟨ownsRow_setCell_other h.row (fun e => by have := (World.ownsRow.lt h.row _ e).1; simp only at this; omega) u, fun s hs => ⟨(h.has s hs).1.set hN j u, (h.has s hs).2⟩, fun s hs => ?_⟩
  rw [hsz]
  exact h.aside s hs
theorem flat_len {β : Type} (f : β → List Nat) (hf : ∀ x, 0 < (f x).length) (l : List β) : l.length ≤ (l.flatMap f).length := by
  induction l with
  | nil => exact Nat.le_refl _
  | cons x t ih =>
    rw [List.flatMap_cons, List.length_append, List.length_cons]
    have := hf x
    omega
theorem kds_len {n : L6.Nd} (hl : n.leaf = false) (h : (L6.ndL n).length ≤ 1007) : n.kds.length ≤ 1007 := by
  unfold L6.ndL at h
  rw [hl] at h
  simp only [Bool.false_eq_true, if_false, List.length_cons, List.length_append] at h
  have := flat_len L6.kdL (fun x => by unfold L6.kdL L6.txL; rw [List.length_append, List.length_append]; have := L6.Pk.shL_pos x.1.size; omega) n.kds
  omega
/-- where wayTo stands -/
structure Wy (h : Hp) (key : ByteArray) (x : Int) (w1 : World) (ss : List Ws) (y : Int) (s : Value) (wr : World) : Prop where
  few : ss.length ≤ 40
  i64 : L5.I64 y
  way : IsWay w1.heap.size wr s ss
  bel : Below w1.heap.size w1 wr
  rest : wayR h key 40 x = (ss.map (fun s => (s.n, s.at')) ++ (wayR h key (40 - ss.length) y).1, (wayR h key (40 - ss.length) y).2)
theorem Wy.next {key : ByteArray} {x y : Int} {w1 wr : World} {ss : List Ws} {s : Value} (hW : Wy h key x w1 ss y s wr) (hl : ss.length < 40) (he : (getR h y).2 = 0) (hf : (getR h y).1.leaf = false) :
    wayR h key 40 x = ((ss.map (fun s => (s.n, s.at')) ++ [((getR h y).1, kidN (getR h y).1 key)]) ++ (wayR h key (40 - (ss.length + 1)) (kidP (getR h y).1 (kidN (getR h y).1 key))).1, (wayR h key (40 - (ss.length + 1)) (kidP (getR h y).1 (kidN (getR h y).1 key))).2) := by
  have e : 40 - ss.length = (40 - (ss.length + 1)) + 1 := by omega
  rw [hW.rest, e, wayR_on he hf]
  simp
end Go.Proofs.YtdelobaiicoogaaGreatDoor

/- Plain mathematics of a heap: a node that is put is read again; Put where all is well. -/
namespace Go.Proofs.YtdelobaiicoogaaGreatDoor

theorem decode_encode {n : L6.Nd} (he : (L6.encodeN n).2 = 0) : L6.decodeN (L6.encodeN n).1 = (n, 0) := by
  obtain ⟨h1, h2⟩ := enc_ok he
  have hr := L6.checkN_right h1
  have hz := enc_size he
  have hb : L6.bn (L6.encodeN n).1 = L6.ndL n := by
    rw [h2]
    exact L6.bn_strOf _ (L6.ndL_lt n)
  obtain ⟨_, _, L1, e, _⟩ := L6.read_right hb hr hz
  unfold L6.decodeN
  rw [e]
  rw [if_pos ⟨hz, by show L6.encodeN n = _; rw [h2]⟩]
theorem sector_ok {n : L6.Nd} {g : Int} (he : (L6.encodeN n).2 = 0) (g0 : 0 ≤ g) (g1 : g ≤ 1152921504606846976) : sectorN g n = L4.strOf (L4.Blk.sector (kindN n) g.toNat (L4.bn (L6.encodeN n).1)) := by
  unfold sectorN
  have hk := kindN_le n
  rw [L4.wrapR_ok (by omega) (by have := enc_size he; omega)]
  rfl
theorem sector_size {n : L6.Nd} {g : Int} (he : (L6.encodeN n).2 = 0) (g0 : 0 ≤ g) (g1 : g ≤ 1152921504606846976) : (sectorN g n).size = 1024 := by
  rw [sector_ok he g0 g1, L4.strOf_size, L4.Blk.sector_length _ _ _ (by rw [L4.bn_length]; exact enc_size he)]
/-- what was put is read -/
theorem nodeOf_sector {n : L6.Nd} {g : Int} (he : (L6.encodeN n).2 = 0) (g0 : 0 ≤ g) (g1 : g ≤ 1152921504606846976) : nodeOf (sectorN g n) = (n, g, 0) := by
  have ho : L4.openR (sectorN g n) = (((kindN n : Nat) : Int), g, (L6.encodeN n).1, 0) := by
    rw [sector_ok he g0 g1, L4.open_wrap (kindN_le n) (by omega) (enc_size he), Int.toNat_of_nonneg g0]
  unfold nodeOf
  rw [ho]
  simp only [decode_encode he]
  simp
/-- a disk whose power stays -/
def Lit (m : L3.Dk) : Prop := m.gone = false ∧ m.left = -1
theorem write_lit {m : L3.Dk} (hl : Lit m) {q : Int} {S : ByteArray} (h0 : 0 ≤ q) (h1 : q < (m.old.length : Int)) (hS : S.size = 1024) : L3.writeE m q S = 0 ∧ L3.writeM m q S = { m with op := m.op ++ [(q.toNat, S)] } := by
  obtain ⟨hg, hl⟩ := hl
  have e1 : ¬ m.gone = true := by rw [hg]; decide
  have e2 : ¬ m.left = 0 := by rw [hl]; decide
  have e3 : ¬ (q < 0 ∨ (m.old.length : Int) ≤ q) := by omega
  constructor
  · unfold L3.writeE
    rw [if_neg e1, if_neg e2, if_neg e3, if_neg (by omega)]
  · unfold L3.writeM
    rw [if_neg e1, if_neg e2, if_neg e3, if_neg (by omega)]
    have : L3.spent m.left = m.left := by rw [hl]; rfl
    rw [this]
theorem read_lit {m : L3.Dk} (hl : Lit m) {q : Int} (h0 : 0 ≤ q) (h1 : q < (m.old.length : Int)) : L3.readM m q = ((L3.lastW m.op q.toNat).getD (m.old.getD q.toNat ByteArray.empty), 0) := by
  unfold L3.readM
  rw [if_neg (by rw [hl.1]; decide), if_neg (by omega)]
theorem read_write {m : L3.Dk} (hl : Lit m) {q x : Int} {S : ByteArray} (h0 : 0 ≤ q) (h1 : q < (m.old.length : Int)) (hx : 0 ≤ x) (hx1 : x < (m.old.length : Int)) :
    L3.readM { m with op := m.op ++ [(q.toNat, S)] } x = if x = q then (S, 0) else L3.readM m x := by
  have hl' : Lit { m with op := m.op ++ [(q.toNat, S)] } := hl
  rw [read_lit hl' hx hx1, read_lit hl hx hx1]
  simp only
  rw [L3.lastW_snoc]
  by_cases e : x = q
  · subst e
    simp
  · rw [if_neg e, if_neg (by simp; omega)]
/-- Put where all is well -/
theorem put_ok {h : Hp} {n : L6.Nd} {i : Nat} (he : (L6.encodeN n).2 = 0) (hm : mayE h.al (places n) = 0) (hi : L5.takeI h.al = some i) (hl : Lit h.dk) (hlen : 2 + h.al.length = h.dk.old.length) (g0 : 0 ≤ h.gen) (g1 : h.gen ≤ 1152921504606846976) :
    putR h n = ((2 : Int) + (i : Int), 0, { dk := { h.dk with op := h.dk.op ++ [(2 + i, sectorN h.gen n)] }, al := holdAll (L5.upd 2 h.al ((2 : Int) + (i : Int)) (some (1, h.gen))) (places n), gen := h.gen, kids := setK h.kids (2 + i) (places n) }) := by
  obtain ⟨hin, hs, ht⟩ := take_at hi h.gen
  have hin' := hin
  unfold L5.In at hin'
  obtain ⟨hw1, hw2⟩ := write_lit hl (q := (2 : Int) + (i : Int)) (S := sectorN h.gen n) (by omega) (by omega) (sector_size he g0 g1)
  have hst : storeR h (sectorN h.gen n) = ((2 : Int) + (i : Int), 0, { h with dk := L3.writeM h.dk ((2 : Int) + (i : Int)) (sectorN h.gen n), al := L5.takeM h.al h.gen }) := by
    have hte : L5.takeE h.al = 0 := by unfold L5.takeE; rw [hi]
    have htn : L5.takeN 2 h.al = (2 : Int) + (i : Int) := by unfold L5.takeN; rw [hi]; rfl
    unfold storeR
    rw [if_neg (fun hn => hn hte), htn, if_neg (fun hn => hn hw1)]
  have e : ((2 : Int) + (i : Int)).toNat = 2 + i := by omega
  unfold putR
  rw [if_neg (fun hn => hn he), if_neg (fun hn => hn hm), hst]
  simp only [ne_eq, not_true_eq_false, if_false, hw2, ht, e]
end Go.Proofs.YtdelobaiicoogaaGreatDoor

/- A search under way: the node at a place that it did not come to yet. -/
namespace Go.Proofs.YtdelobaiicoogaaGreatDoor
open Go.ChangeShapes Go.WideShapes Go.ChangeAt Go.RowKit
variable {w w' : World} {p d : Nat} {h : Hp} {c : Nat} {F : List Nat}
variable {lv dp : Int}

/-- a search in memory: a walk, the level of the leaves, the deepest one -/
structure SearchAt (lv dp : Int) (w : World) (b p mb : Nat) (err : Int) (k : Nat) (f : Nat → Option Value) : Prop where
  blk : w.heap[b]? = some (.cells #[.pointer (some ⟨p, 0, none⟩), .map (some mb), .int .i64 err, .int .i64 lv, .int .i64 dp] 107 (0, 0))
  met : Vm stR w mb k f
theorem SearchAt.cell0 {b p mb : Nat} {err : Int} {k : Nat} {f : Nat → Option Value} (H : SearchAt lv dp w b p mb err k f) : w.cell? ⟨b, 0, none⟩ = some (.pointer (some ⟨p, 0, none⟩)) := by simp [World.cell?, H.blk]
theorem SearchAt.cell1 {b p mb : Nat} {err : Int} {k : Nat} {f : Nat → Option Value} (H : SearchAt lv dp w b p mb err k f) : w.cell? ⟨b, 1, none⟩ = some (.map (some mb)) := by simp [World.cell?, H.blk]
theorem SearchAt.cell2 {b p mb : Nat} {err : Int} {k : Nat} {f : Nat → Option Value} (H : SearchAt lv dp w b p mb err k f) : w.cell? ⟨b, 2, none⟩ = some (.int .i64 err) := by simp [World.cell?, H.blk]
theorem SearchAt.lt {b p mb : Nat} {err : Int} {k : Nat} {f : Nat → Option Value} (H : SearchAt lv dp w b p mb err k f) : b < w.heap.size := (Array.getElem?_eq_some_iff.1 H.blk).1
theorem SearchAt.ne {b p mb : Nat} {err : Int} {k : Nat} {f : Nat → Option Value} (H : SearchAt lv dp w b p mb err k f) : b ≠ mb := by
  rintro rfl
  obtain ⟨es, cl, this⟩ := H.met.kind
  rw [H.blk] at this
  cases this
theorem SearchAt.grow {b p mb : Nat} {err : Int} {k : Nat} {f : Nat → Option Value} (H : SearchAt lv dp w b p mb err k f) (hb : Below w.heap.size w w') : SearchAt lv dp w' b p mb err k f := ⟨(hb.block b H.lt).trans H.blk, H.met.same (hb.block mb H.met.lt)⟩
theorem SearchAt.set {b mb k P : Nat} {err : Int} {f : Nat → Option Value} {L : Bool} {ai ak : Option Addr} {il ci kl ck : Nat} (H : SearchAt lv dp w b p mb err k f) (hP : L6.Nblk w P L ai il ci ak kl ck) (j : Nat) (u : Value) : SearchAt lv dp (w.setCell ⟨P, j, none⟩ u) b p mb err k f := by
  have h1 : b ≠ P := by
    rintro rfl
    have := H.blk
    unfold L6.Nblk at hP
    rw [hP] at this
    injection this with this
    injection this with _ this
    exact absurd this (by decide)
  have h2 : mb ≠ P := by
    rintro rfl
    obtain ⟨es, cl, h4⟩ := H.met.kind
    unfold L6.Nblk at hP
    rw [hP] at h4
    cases h4
  exact ⟨(Below.heap_setCell _ ⟨P, j, none⟩ _ _ h1).trans H.blk, H.met.same (Below.heap_setCell _ ⟨P, j, none⟩ _ _ h2)⟩
theorem search_mid {W0 w2 : World} {b mb k P : Nat} {err : Int} {f g : Nat → Option Value} (hW1 : SearchAt lv dp W0 b p mb err k f) (H : IsHeap W0 p d h c F) (hP : L6.Nblk W0 P false none 0 0 none 0 0) (hF : mb ∉ F) (h0 : 0 < mb) (hs2 : Vm stR w2 mb (k + 1) g) (hg2 : W0.grownBy w2 (some mb)) :
    SearchAt lv dp w2 b p mb err (k + 1) g ∧ IsHeap w2 p d h c F ∧ L6.Nblk w2 P false none 0 0 none 0 0 ∧ Moves [mb] W0 w2 := by
  have hmv : Moves [mb] W0 w2 := L5.Moves.of_grown hg2 (fun k hk => by cases hk; simp)
  obtain ⟨es, cl, h4⟩ := hW1.met.kind
  refine ⟨⟨(hmv.block b hW1.lt (by have := hW1.ne; simp; exact this)).trans hW1.blk, hs2⟩, H.aside hmv (fun y hy => by simp at hy; rw [hy]; exact hF) (by simp; omega) (fun y hy hyl h3 => ?_), (hmv.block _ hP.lt (fun hx => ?_)).trans hP, hmv⟩
  · simp at hy
    subst hy
    obtain ⟨cs, h3⟩ := h3
    rw [h3] at h4
    cases h4
  · simp at hx
    subst hx
    unfold L6.Nblk at hP
    rw [h4] at hP
    cases hP
set_option maxHeartbeats 2000000 in
set_option maxRecDepth 20000 in
/-- a place that wasn't met yet -/
theorem search_new (x : Nat) (hx : x < 4096) (b mb k : Nat) (err : Int) (f : Nat → Option Value) (w : World) (H : IsHeap w p d h c F) (hW : SearchAt lv dp w b p mb err k f) (hf : f x = none) (hF : mb ∉ F) (h0 : 0 < mb) (hk : k ≤ 100000) :
    Calls Tryz.prog 70 #[.pointer (some ⟨b, 0, none⟩), .int .i64 (x : Int)] w fun e w' => ∃ (ai ak : Option Addr) (ci ck : Nat), e = .returned (.tuple #[.agg #[.bool (getR h (x : Int)).1.leaf, .slice ai (getR h (x : Int)).1.its.length ci, .slice ak (getR h (x : Int)).1.kds.length ck], .int .i64 (getR h (x : Int)).2]) ∧
      L6.Has w' (getR h (x : Int)).1 ai ak ∧ ((getR h (x : Int)).1.its.length ≤ ci ∧ (getR h (x : Int)).1.kds.length ≤ ck) ∧ SearchAt lv dp w' b p mb err (k + 1) (setF f x) ∧ Moves [mb] w w' ∧ IsHeap w' p d h c F := by
  have HP := hide (L6.Nblk.new w false none none 0 0 0 0)
  have hb0 := below_alloc w (.cells #[.bool false, .slice none 0 0, .slice none 0 0] 38)
  have hb1 := below_then hb0 (below_alloc (w.alloc (.cells #[.bool false, .slice none 0 0, .slice none 0 0] 38)) (.cells #[] 227))
  have hW1 := hW.grow hb1
  have hl0 := (hW.grow hb0).met.has (n := (x : Int)) (by omega) (by omega)
  rw [show ((x : Int)).toNat = x from rfl, hf] at hl0
  have e0 := (hW.grow hb0).cell1
  have HW := hide hW
  have HW1 := hide hW1
  have HH := hide (H.grow hb1)
  have HB1 := hide hb1
  have HF := hide hF
  have H0 := hide h0
  have HK := hide hk
  have HX := hide hx
  have HLF := hide H.lt
  have e1 := hW1.cell1
  have HP1 := hide ((unhide HP).below (below_alloc (w.alloc (.cells #[.bool false, .slice none 0 0, .slice none 0 0] 38)) (.cells #[] 227)))
  clear hb0 hb1 hW hW1 H hf hF h0 hk hx HP
  go_enter Tryz.func70, Tryz.ntmps70
  go_wp2_with (first | (at_mapUpdate; refine wp_kstore (R := stR) (u := .agg #[]) (b := mb) (n := (x : Int)) Tryz.underlying103 rfl _ _ _ rfl rfl rfl rfl (unhide HW1).met (by omega) (by have := unhide HX; omega) rfl (by unfold maxLen; have := unhide HK; omega) ?_; intro w2 hs2 hg2; have hmid := search_mid (unhide HW1) (unhide HH) (unhide HP1) (unhide HF) (unhide H0) hs2 hg2; have g0 := hmid.1.cell0; have HY := hide hmid; clear hs2 hg2 hmid) | fail)
  have HW2 : Hid (SearchAt lv dp w2 b p mb err (k + 1) (setF f x)) := (unhide HY).1
  have HH2 := hide (unhide HY).2.1
  have HP2 := hide (unhide HY).2.2.1
  have HM := hide ((L5.Moves.of_below [mb] (unhide HB1)).then (unhide HY).2.2.2)
  clear HY HW1 HH HP1 HB1 e0 e1 hl0
  obtain ⟨P, hP⟩ : ∃ x, x = w.heap.size := ⟨_, rfl⟩
  rw [← hP] at HP2 ⊢
  have HPE := hide hP
  clear hP
  refine (hget_anyC (x : Int) (by unfold L5.I64; have := unhide HX; omega) w2 (unhide HH2)).mono ?_
  rintro e w3 ⟨ai, ak, ci, ck, rfl, hh3, hcp, hb3⟩
  have hp3 := (unhide HP2).below hb3
  have z0 := hp3.cell0
  have z1 := hp3.cell1
  have z2 := hp3.cell2
  have f0 := hp3.free 0
  have f1 := hp3.free 1
  have f2 := hp3.free 2
  have HP3 := hide hp3
  have HH3 := hide hh3
  have HCP := hide hcp
  have HW3 := hide ((unhide HW2).grow hb3)
  have HI3 := hide ((unhide HH2).grow hb3)
  have HM3 := hide ((unhide HM).then (L5.Moves.of_below _ hb3))
  clear hb3 hp3 hh3 hcp g0
  generalize hT : getR h (x : Int) = T at *
  have HTE := hide hT
  clear hT
  obtain ⟨n, E⟩ := T
  simp only at HH3 HCP ⊢
  go_wp2
  have hst := (unhide HP3).store n.leaf ai n.its.length ci ak n.kds.length ck (unhide HH3)
  have hlt := (unhide HP3).lt
  refine bodyPost_ret (v := .tuple #[.agg #[.bool n.leaf, .slice ai n.its.length ci, .slice ak n.kds.length ck], .int .i64 E]) ?_ rfl ?_
  · rw [results_cell_tmp rfl]
    go_simp
  · have hm4 : Moves [mb] w (((w3.setCell ⟨P, 0, none⟩ (.bool n.leaf)).setCell ⟨P, 1, none⟩ (.slice ai n.its.length ci)).setCell ⟨P, 2, none⟩ (.slice ak n.kds.length ck)) := moves_new (moves_new (moves_new (unhide HM3) (unhide HPE)) (unhide HPE)) (unhide HPE)
    rw [unhide HTE]
    refine ⟨ai, ak, ci, ck, rfl, hst.2, unhide HCP, (((unhide HW3).set (unhide HP3) 0 _).set ((unhide HP3).set0 n.leaf) 1 _).set (((unhide HP3).set0 n.leaf).set1 ai n.its.length ci) 2 _, hm4, ?_⟩
    have hF3 : P ∉ F := fun hx => by have := (unhide HLF) P hx; have := unhide HPE; omega
    exact (((unhide HI3).set hF3 (unhide HP3) 0 _).set hF3 ((unhide HP3).set0 n.leaf) 1 _).set hF3 (((unhide HP3).set0 n.leaf).set1 ai n.its.length ci) 2 _
end Go.Proofs.YtdelobaiicoogaaGreatDoor

/- A search: a place that it came to already; whether a leaf's items are where they are to be. -/
namespace Go.Proofs.YtdelobaiicoogaaGreatDoor
open Go.ChangeShapes Go.WideShapes Go.ChangeAt Go.RowKit
attribute [local go_sem] Oper.semAt_some
variable {p d : Nat} {h : Hp} {c : Nat} {F : List Nat} {lv dp : Int}

theorem blk_facts' {w : World} {b : Nat} {cs : Array Value} {t : TypeId} (h : w.heap[b]? = some (.cells cs t (0, 0))) : (∀ i v, cs[i]? = some v → w.cell? ⟨b, i, none⟩ = some v) ∧ ∀ i, w.frozen? ⟨b, i, none⟩ = false :=
  ⟨fun i v hv => by simp [World.cell?, h, hv], fun i => by simp [World.frozen?, h]⟩
theorem cell_later' {w : World} {a : Addr} {v : Value} (o : Obj) (h : w.cell? a = some v) : (w.alloc o).cell? a = some v := ((below_alloc w o).cell (World.block_lt_of_cell? _ _ h)).trans h
set_option maxHeartbeats 1000000 in
set_option maxRecDepth 20000 in
/-- a place that was met -/
theorem search_met (x : Nat) (hx : x < 4096) (b mb k : Nat) (err : Int) (f : Nat → Option Value) (v : Value) (w : World) (hW : SearchAt lv dp w b p mb err k f) (hf : f x = some v) :
    Calls Tryz.prog 70 #[.pointer (some ⟨b, 0, none⟩), .int .i64 (x : Int)] w fun e w' => e = .returned (.tuple #[.agg #[.bool false, .slice none 0 0, .slice none 0 0], .int .i64 80]) ∧ Below w.heap.size w w' := by
  have hb0 := below_alloc w (.cells #[.bool false, .slice none 0 0, .slice none 0 0] 38)
  have hl0 := (hW.grow hb0).met.has (n := (x : Int)) (by omega) (by omega)
  rw [show ((x : Int)).toNat = x from rfl, hf] at hl0
  have e0 := (hW.grow hb0).cell1
  have HB := hide hb0
  clear hb0 hW hf
  go_enter Tryz.func70, Tryz.ntmps70
  go_wp2
  refine bodyPost_ret (v := .tuple #[.agg #[.bool false, .slice none 0 0, .slice none 0 0], .int .i64 80]) ?_ rfl ⟨rfl, below_then (unhide HB) (below_alloc _ _)⟩
  obtain ⟨hc, _⟩ := blk_facts' (heap_alloc_new w (.cells #[.bool false, .slice none 0 0, .slice none 0 0] 38))
  have z0 := cell_later' (.cells #[] 227) (hc 0 _ rfl)
  have z1 := cell_later' (.cells #[] 227) (hc 1 _ rfl)
  have z2 := cell_later' (.cells #[] 227) (hc 2 _ rfl)
  rw [results_cell_tmp rfl]
  go_simp <;> rfl
end Go.Proofs.YtdelobaiicoogaaGreatDoor

/- Whether a leaf's items are where they are to be. -/
namespace Go.Proofs.YtdelobaiicoogaaGreatDoor
open Go.ChangeShapes Go.WideShapes Go.ChangeAt Go.RowKit
attribute [local go_sem] Oper.semAt_some

/-- what is said of a leaf whose first and last keys are these -/
def leafOkB (k0 kl fr to' : ByteArray) : Bool := !(L6.less k0 fr) && !(pastB kl to')
set_option maxHeartbeats 2000000 in
set_option maxRecDepth 20000 in
/-- the leaves' level is known -/
theorem rightLeaf_at (b g off m ci : Nat) (lvl : Int) (k0 kl fr to' : ByteArray) (w : World) (hv : (lvl == 0) = false) (c3 : w.cell? ⟨b, 3, none⟩ = some (.int .i64 lvl)) (h0 : w.cell? ⟨g, off, none⟩ = some (.string k0)) (hl : w.cell? ⟨g, off + m * 2, none⟩ = some (.string kl)) (hm : m < 1100) :
    Calls Tryz.prog 71 #[.pointer (some ⟨b, 0, none⟩), .slice (some ⟨g, off, none⟩) (m + 1) ci, .int .i64 lvl, .string fr, .string to'] w fun e w' => e = .returned (.bool (leafOkB k0 kl fr to')) ∧ w' = w := by
  have h0w : ¬ (m : Int) + 1 - 1 < 0 := by omega
  have e1 : ((m : Int) + 1 - 1) = (m : Int) := by omega
  have hw : IntKind.i64.wrap ((m : Int) + 1 - 1) = (m : Int) := by rw [IntKind.wrap_i64]; omega
  have hlt : (m : Int) < (m : Int) + 1 := by omega
  have hnn : (0 : Int) ≤ (m : Int) := by omega
  have HPast := hide (isPast_any kl to' w)
  unfold leafOkB
  cases hq : L6.less k0 fr with
  | true =>
    have hq1 : Op.bytesLess k0.toList fr.toList = true := hq
    clear hq
    go_enter Tryz.func71, Tryz.ntmps71
    go_wp2_with (go_at_call 72; refine (unhide HPast).mono ?_; rintro e w2 ⟨rfl, hw2⟩; rw [hw2]; clear hw2)
    go_ret
    exact ⟨by simp, rfl⟩
  | false =>
    have hq1 : Op.bytesLess k0.toList fr.toList = false := hq
    clear hq
    go_enter Tryz.func71, Tryz.ntmps71
    go_wp2_with (go_at_call 72; refine (unhide HPast).mono ?_; rintro e w2 ⟨rfl, hw2⟩; rw [hw2]; clear hw2)
    go_ret
    exact ⟨by simp, rfl⟩
set_option maxHeartbeats 2000000 in
set_option maxRecDepth 20000 in
/-- the first leaf that is met tells the leaves' level -/
theorem rightLeaf_first (b g off m ci : Nat) (lvl : Int) (k0 kl fr to' : ByteArray) (w : World) (c3 : w.cell? ⟨b, 3, none⟩ = some (.int .i64 0)) (f3 : w.frozen? ⟨b, 3, none⟩ = false) (h0 : w.cell? ⟨g, off, none⟩ = some (.string k0)) (hl : w.cell? ⟨g, off + m * 2, none⟩ = some (.string kl)) (hbg : b ≠ g) (hm : m < 1100) :
    Calls Tryz.prog 71 #[.pointer (some ⟨b, 0, none⟩), .slice (some ⟨g, off, none⟩) (m + 1) ci, .int .i64 lvl, .string fr, .string to'] w fun e w' => e = .returned (.bool (leafOkB k0 kl fr to')) ∧ w' = w.setCell ⟨b, 3, none⟩ (.int .i64 lvl) := by
  have d3 := World.cell?_setCell_same w ⟨b, 3, none⟩ (.int .i64 lvl) c3
  have d0 : (w.setCell ⟨b, 3, none⟩ (.int .i64 lvl)).cell? ⟨g, off, none⟩ = some (.string k0) := (World.cell?_setCell_other _ _ _ _ (fun e => hbg (by injection e))).trans h0
  have dl : (w.setCell ⟨b, 3, none⟩ (.int .i64 lvl)).cell? ⟨g, off + m * 2, none⟩ = some (.string kl) := (World.cell?_setCell_other _ _ _ _ (fun e => hbg (by injection e))).trans hl
  have h0w : ¬ (m : Int) + 1 - 1 < 0 := by omega
  have e1 : ((m : Int) + 1 - 1) = (m : Int) := by omega
  have hw : IntKind.i64.wrap ((m : Int) + 1 - 1) = (m : Int) := by rw [IntKind.wrap_i64]; omega
  have hlt : (m : Int) < (m : Int) + 1 := by omega
  have hnn : (0 : Int) ≤ (m : Int) := by omega
  have HPast := hide (isPast_any kl to' (w.setCell ⟨b, 3, none⟩ (.int .i64 lvl)))
  clear h0 hl hbg
  unfold leafOkB
  cases hq : L6.less k0 fr with
  | true =>
    have hq1 : Op.bytesLess k0.toList fr.toList = true := hq
    clear hq
    go_enter Tryz.func71, Tryz.ntmps71
    go_wp2_with (go_at_call 72; refine (unhide HPast).mono ?_; rintro e w2 ⟨rfl, hw2⟩; rw [hw2]; clear hw2)
    go_ret
    exact ⟨by simp, rfl⟩
  | false =>
    have hq1 : Op.bytesLess k0.toList fr.toList = false := hq
    clear hq
    go_enter Tryz.func71, Tryz.ntmps71
    go_wp2_with (go_at_call 72; refine (unhide HPast).mono ?_; rintro e w2 ⟨rfl, hw2⟩; rw [hw2]; clear hw2)
    go_ret
    exact ⟨by simp, rfl⟩
/-- another level than the leaves' -/
theorem rightLeaf_off (b : Nat) (l lvl : Int) (v : Value) (fr to' : ByteArray) (w : World) (hl : (l == 0) = false) (hne : (l == lvl) = false) (c3 : w.cell? ⟨b, 3, none⟩ = some (.int .i64 l)) :
    Calls Tryz.prog 71 #[.pointer (some ⟨b, 0, none⟩), v, .int .i64 lvl, .string fr, .string to'] w fun e w' => e = .returned (.bool false) ∧ w' = w := by
  go_enter Tryz.func71, Tryz.ntmps71
  go_wp2
  go_ret
  exact ⟨rfl, rfl⟩
end Go.Proofs.YtdelobaiicoogaaGreatDoor
