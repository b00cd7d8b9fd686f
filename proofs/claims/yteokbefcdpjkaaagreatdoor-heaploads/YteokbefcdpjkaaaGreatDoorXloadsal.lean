/- Texts that the proof needs, one behind the other. -/
import Derived.Test.YteokbefcdpjkaaaGreatDoorMak
import Derived.Test.YteokbefcdpjkaaaGreatDoorMai
/- The law's calls in memory; the node of a call that puts. -/
namespace Go.Proofs.YteokbefcdpjkaaaGreatDoor
open Go.ChangeShapes Go.WideShapes Go.ChangeAt Go.RowKit

structure Cl where
  kind : Int
  n : Int
  kids : List Int
  nd : L6.Nd
def nodeC (c : Cl) : L6.Nd := if c.kind = 0 then leafN c.n else if c.kind = 1 then innerN c.kids else c.nd
/-- a call's cells -/
def clV (c : Cl) (a1 : Option Addr) (c1 : Nat) (ai : Option Addr) (ci : Nat) (ak : Option Addr) (ck : Nat) : List Value :=
  [.int .i64 c.kind, .int .i64 c.n, .slice a1 c.kids.length c1, .bool c.nd.leaf, .slice ai c.nd.its.length ci, .slice ak c.nd.kds.length ck]
/-- below B -/
def Under (B : Nat) (a : Option Addr) : Prop := ∀ x, a = some x → x.block < B
/-- what a call leads to, below B -/
structure ClAt (B : Nat) (w : World) (c : Cl) (a1 ai ak : Option Addr) : Prop where
  ints : Irow w a1 c.kids
  has : L6.Has w c.nd ai ak
  u1 : c.kids = [] ∨ Under B a1
  ui : c.nd.its = [] ∨ Under B ai
  uk : c.nd.kds = [] ∨ Under B ak
  few : c.kids.length ≤ maxLen ∧ c.nd.its.length ≤ maxLen ∧ c.nd.kds.length ≤ maxLen
  n64 : L5.I64 c.n ∧ L5.I64 c.kind
theorem ClAt.grow {B : Nat} {w w' : World} {c : Cl} {a1 ai ak : Option Addr} (h : ClAt B w c a1 ai ak) (hb : Below w.heap.size w w') : ClAt B w' c a1 ai ak := ⟨h.ints.grow hb, h.has.grow hb, h.u1, h.ui, h.uk, h.few, h.n64⟩
/-- calls in a row -/
def Cls (B : Nat) (w : World) (a : Option Addr) (l : List Cl) : Prop := l = [] ∨ ∃ b off, a = some ⟨b, off, none⟩ ∧ b < B ∧ ∀ i c, l[i]? = some c → ∃ a1 c1 ai ci ak ck, ClAt B w c a1 ai ak ∧ ∀ j v, (clV c a1 c1 ai ci ak ck)[j]? = some v → w.cell? ⟨b, off + i * 6 + j, none⟩ = some v
theorem cell_base {B : Nat} {w w' : World} {a : Addr} {v : Value} (h : w.cell? a = some v) (ha : a.block < B) (hb : Below B w w') : w'.cell? a = some v := (hb.cell ha).trans h

/-- where a node's rows stand: below B, or in what is new since -/
def Stands (B s : Nat) (a : Option Addr) : Prop := ∀ x, a = some x → x.block < B ∨ s ≤ x.block
def NodeSaidB (B : Nat) (n : L6.Nd) (w : World) (x : Ending) (w' : World) : Prop := ∃ (ai ak : Option Addr) (ci ck : Nat), x = .returned (.agg #[.bool n.leaf, .slice ai n.its.length ci, .slice ak n.kds.length ck]) ∧ L6.Has w' n ai ak ∧ Below w.heap.size w w' ∧ (n.its = [] ∨ Stands B w.heap.size ai) ∧ (n.kds = [] ∨ Stands B w.heap.size ak)

set_option maxHeartbeats 2000000 in
set_option maxRecDepth 20000 in
theorem node_one (B : Nat) (K n : Int) (kids : List Int) (nd : L6.Nd) (a1 : Option Addr) (c1 : Nat) (ai : Option Addr) (ci : Nat) (ak : Option Addr) (ck : Nat) (w : World) (hc : ClAt B w ⟨K, n, kids, nd⟩ a1 ai ak) (hk : kids.length ≤ 1000) :
    Calls Tryz.prog 46 #[.agg #[.int .i64 K, .int .i64 n, .slice a1 kids.length c1, .bool nd.leaf, .slice ai nd.its.length ci, .slice ak nd.kds.length ck]] w fun x w' => NodeSaidB B (nodeC ⟨K, n, kids, nd⟩) w x w' := by
  by_cases k0 : K = 0
  · subst k0
    have hb0 := below_alloc w (.cells #[.int .i64 0, .int .i64 n, .slice a1 kids.length c1, .bool nd.leaf, .slice ai nd.its.length ci, .slice ak nd.kds.length ck] 45)
    have hs0 : (w.alloc (.cells #[.int .i64 0, .int .i64 n, .slice a1 kids.length c1, .bool nd.leaf, .slice ai nd.its.length ci, .slice ak nd.kds.length ck] 45)).heap.size = w.heap.size + 1 := World.size_alloc _ _
    have hp := L6.Nblk.new (w.alloc (.cells #[.int .i64 0, .int .i64 n, .slice a1 kids.length c1, .bool nd.leaf, .slice ai nd.its.length ci, .slice ak nd.kds.length ck] 45)) false none none 0 0 0 0
    rw [hs0] at hp
    have hb1 := below_then hb0 (below_alloc (w.alloc (.cells #[.int .i64 0, .int .i64 n, .slice a1 kids.length c1, .bool nd.leaf, .slice ai nd.its.length ci, .slice ak nd.kds.length ck] 45)) (.cells #[.bool false, .slice none 0 0, .slice none 0 0] 43))
    have HB := hide hb1
    have HC := hide (hc.grow hb1)
    have HP := hide hp
    have HKL := hide hk
    have HR : Hid (w.heap.size ≤ w.heap.size + 1) := Nat.le_succ _
    clear hb0 hs0 hp hb1 hc hk
    obtain ⟨P, hP⟩ : ∃ x, x = w.heap.size + 1 := ⟨_, rfl⟩
    have hN : nodeC ⟨0, n, kids, nd⟩ = leafN n := rfl
    have HN := hide hN
    clear hN
    go_enter Tryz.func46, Tryz.ntmps46
    go_wp2_with fail
    rw [← hP] at HP HR ⊢
    clear hP
    generalize (w.alloc (.cells #[.int .i64 0, .int .i64 n, .slice a1 kids.length c1, .bool nd.leaf, .slice ai nd.its.length ci, .slice ak nd.kds.length ck] 45)).alloc (.cells #[.bool false, .slice none 0 0, .slice none 0 0] 43) = w1 at *
    refine (leaf_any n w1).mono ?_
    rintro x w2 ⟨bi, bk, di, dk, rfl, hh, hb, fi, fk⟩
    have hp2 := (unhide HP).below hb
    have c0 := hp2.cell0
    have c1' := hp2.cell1
    have c2 := hp2.cell2
    have f0 := hp2.free 0
    have f1 := hp2.free 1
    have f2 := hp2.free 2
    have HP2 := hide hp2
    have HB2 := hide (below_then (unhide HB) hb)
    have HH2 := hide hh
    have HFR := hide (And.intro fi fk)
    have HSZ := hide (unhide HB).size
    clear hp2 hb hh fi fk
    obtain ⟨N, hNN⟩ : ∃ x, x = leafN n := ⟨_, rfl⟩
    rw [← hNN] at HH2 ⊢
    have HNN := hide hNN
    clear hNN
    go_wp2
    have hst := (unhide HP2).store N.leaf bi N.its.length di bk N.kds.length dk (unhide HH2)
    refine bodyPost_ret (v := .agg #[.bool N.leaf, .slice bi N.its.length di, .slice bk N.kds.length dk]) ?_ rfl ?_
    · rw [results_cell rfl]
      go_simp
    · rw [unhide HN, ← unhide HNN]
      exact ⟨bi, bk, di, dk, rfl, hst.2, L6.below_store (L6.below_store (L6.below_store (unhide HB2) P 0 _ (unhide HR)) P 1 _ (unhide HR)) P 2 _ (unhide HR), .inr (fun x hx => .inr (Nat.le_trans (unhide HSZ) ((unhide HFR).1 x hx))), .inr (fun x hx => .inr (Nat.le_trans (unhide HSZ) ((unhide HFR).2 x hx)))⟩
  · by_cases k1 : K = 1
    · subst k1
      have hb0 := below_alloc w (.cells #[.int .i64 1, .int .i64 n, .slice a1 kids.length c1, .bool nd.leaf, .slice ai nd.its.length ci, .slice ak nd.kds.length ck] 45)
      have hs0 : (w.alloc (.cells #[.int .i64 1, .int .i64 n, .slice a1 kids.length c1, .bool nd.leaf, .slice ai nd.its.length ci, .slice ak nd.kds.length ck] 45)).heap.size = w.heap.size + 1 := World.size_alloc _ _
      have hp := L6.Nblk.new (w.alloc (.cells #[.int .i64 1, .int .i64 n, .slice a1 kids.length c1, .bool nd.leaf, .slice ai nd.its.length ci, .slice ak nd.kds.length ck] 45)) false none none 0 0 0 0
      rw [hs0] at hp
      have hb1 := below_then hb0 (below_alloc (w.alloc (.cells #[.int .i64 1, .int .i64 n, .slice a1 kids.length c1, .bool nd.leaf, .slice ai nd.its.length ci, .slice ak nd.kds.length ck] 45)) (.cells #[.bool false, .slice none 0 0, .slice none 0 0] 43))
      have HB := hide hb1
      have HC := hide (hc.grow hb1)
      have HP := hide hp
      have HKL := hide hk
      have HR : Hid (w.heap.size ≤ w.heap.size + 1) := Nat.le_succ _
      clear hb0 hs0 hp hb1 hc hk
      obtain ⟨P, hP⟩ : ∃ x, x = w.heap.size + 1 := ⟨_, rfl⟩
      have hN : nodeC ⟨1, n, kids, nd⟩ = innerN kids := rfl
      have HN := hide hN
      clear hN k0
      go_enter Tryz.func46, Tryz.ntmps46
      go_wp2_with fail
      rw [← hP] at HP HR ⊢
      clear hP
      generalize (w.alloc (.cells #[.int .i64 1, .int .i64 n, .slice a1 kids.length c1, .bool nd.leaf, .slice ai nd.its.length ci, .slice ak nd.kds.length ck] 45)).alloc (.cells #[.bool false, .slice none 0 0, .slice none 0 0] 43) = w1 at *
      refine (inner_any kids a1 c1 w1 (unhide HC).ints (unhide HKL)).mono ?_
      rintro x w2 ⟨bi, bk, di, dk, rfl, hh, hb, fi, fk⟩
      have hp2 := (unhide HP).below hb
      have c0 := hp2.cell0
      have c1' := hp2.cell1
      have c2 := hp2.cell2
      have f0 := hp2.free 0
      have f1 := hp2.free 1
      have f2 := hp2.free 2
      have HP2 := hide hp2
      have HB2 := hide (below_then (unhide HB) hb)
      have HH2 := hide hh
      have HFR := hide (And.intro fi fk)
      have HSZ := hide (unhide HB).size
      clear hp2 hb hh fi fk
      obtain ⟨N, hNN⟩ : ∃ x, x = innerN kids := ⟨_, rfl⟩
      rw [← hNN] at HH2 ⊢
      have HNN := hide hNN
      clear hNN
      go_wp2
      have hst := (unhide HP2).store N.leaf bi N.its.length di bk N.kds.length dk (unhide HH2)
      refine bodyPost_ret (v := .agg #[.bool N.leaf, .slice bi N.its.length di, .slice bk N.kds.length dk]) ?_ rfl ?_
      · rw [results_cell rfl]
        go_simp
      · rw [unhide HN, ← unhide HNN]
        exact ⟨bi, bk, di, dk, rfl, hst.2, L6.below_store (L6.below_store (L6.below_store (unhide HB2) P 0 _ (unhide HR)) P 1 _ (unhide HR)) P 2 _ (unhide HR), .inr (fun x hx => .inr (Nat.le_trans (unhide HSZ) ((unhide HFR).1 x hx))), .inr (fun x hx => .inr (Nat.le_trans (unhide HSZ) ((unhide HFR).2 x hx)))⟩
    · have g0 : (K == 0) = false := beq_eq_false_iff_ne.2 k0
      have g1 : (K == 1) = false := beq_eq_false_iff_ne.2 k1
      have hN : nodeC ⟨K, n, kids, nd⟩ = nd := by unfold nodeC; rw [if_neg k0, if_neg k1]
      have HN := hide hN
      have hb0 := below_alloc w (.cells #[.int .i64 K, .int .i64 n, .slice a1 kids.length c1, .bool nd.leaf, .slice ai nd.its.length ci, .slice ak nd.kds.length ck] 45)
      have hs0 : (w.alloc (.cells #[.int .i64 K, .int .i64 n, .slice a1 kids.length c1, .bool nd.leaf, .slice ai nd.its.length ci, .slice ak nd.kds.length ck] 45)).heap.size = w.heap.size + 1 := World.size_alloc _ _
      have hp := L6.Nblk.new (w.alloc (.cells #[.int .i64 K, .int .i64 n, .slice a1 kids.length c1, .bool nd.leaf, .slice ai nd.its.length ci, .slice ak nd.kds.length ck] 45)) false none none 0 0 0 0
      rw [hs0] at hp
      have hb1 := below_then hb0 (below_alloc (w.alloc (.cells #[.int .i64 K, .int .i64 n, .slice a1 kids.length c1, .bool nd.leaf, .slice ai nd.its.length ci, .slice ak nd.kds.length ck] 45)) (.cells #[.bool false, .slice none 0 0, .slice none 0 0] 43))
      have HB := hide hb1
      have HC := hide hc
      have HP := hide hp
      have HKL := hide hk
      have HR : Hid (w.heap.size ≤ w.heap.size + 1) := Nat.le_succ _
      clear hb0 hs0 hp hb1 hc hk
      have x0 := (unhide HP).cell0
      have x1 := (unhide HP).cell1
      have x2 := (unhide HP).cell2
      have f0 := (unhide HP).free 0
      have f1 := (unhide HP).free 1
      have f2 := (unhide HP).free 2
      clear hN k0 k1
      go_enter Tryz.func46, Tryz.ntmps46
      go_wp2
      have hbX := below_then (below_alloc w (.cells #[.int .i64 K, .int .i64 n, .slice a1 kids.length c1, .bool nd.leaf, .slice ai nd.its.length ci, .slice ak nd.kds.length ck] 45)) (below_alloc (w.alloc (.cells #[.int .i64 K, .int .i64 n, .slice a1 kids.length c1, .bool nd.leaf, .slice ai nd.its.length ci, .slice ak nd.kds.length ck] 45)) (.cells #[.bool nd.leaf, .slice ai nd.its.length ci, .slice ak nd.kds.length ck] 43))
      refine bodyPost_ret (v := .agg #[.bool nd.leaf, .slice ai nd.its.length ci, .slice ak nd.kds.length ck]) ?_ rfl ?_
      · rw [results_cell rfl]
        go_simp
      · rw [unhide HN]
        exact ⟨ai, ak, ci, ck, rfl, (unhide HC).has.grow hbX, hbX, (unhide HC).ui.imp id (fun h x hx => .inl (h x hx)), (unhide HC).uk.imp id (fun h x hx => .inl (h x hx))⟩
theorem node_any (B : Nat) (c : Cl) (a1 : Option Addr) (c1 : Nat) (ai : Option Addr) (ci : Nat) (ak : Option Addr) (ck : Nat) (w : World) (hc : ClAt B w c a1 ai ak) (hk : c.kids.length ≤ 1000) :
    Calls Tryz.prog 46 #[.agg #[.int .i64 c.kind, .int .i64 c.n, .slice a1 c.kids.length c1, .bool c.nd.leaf, .slice ai c.nd.its.length ci, .slice ak c.nd.kds.length ck]] w fun x w' => NodeSaidB B (nodeC c) w x w' :=
  node_one B c.kind c.n c.kids c.nd a1 c1 ai ci ak ck w hc hk
end Go.Proofs.YteokbefcdpjkaaaGreatDoor

/- long: more than is played? -/
namespace Go.Proofs.YteokbefcdpjkaaaGreatDoor
open Go.ChangeShapes Go.WideShapes Go.ChangeAt Go.RowKit

def Short (l : List Cl) : Prop := l.length ≤ 100 ∧ ∀ c ∈ l, c.kids.length ≤ 60 ∧ L6.Few c.nd
def LongSaid (l : List Cl) (w : World) (e : Ending) (w' : World) : Prop := ∃ g, e = .returned (.bool g) ∧ (g = false → Short l) ∧ Below w.heap.size w w'
theorem Cls.grow {B : Nat} {w w' : World} {a : Option Addr} {l : List Cl} (h : Cls B w a l) (hb : Below B w w') (hr : ∀ c a1 ai ak, ClAt B w c a1 ai ak → ClAt B w' c a1 ai ak) : Cls B w' a l := by
  rcases h with h | ⟨b, off, e, hbb, hh⟩
  · exact .inl h
  · refine .inr ⟨b, off, e, hbb, fun i c hc => ?_⟩
    obtain ⟨a1, c1, ai, ci, ak, ck, h1, h2⟩ := hh i c hc
    exact ⟨a1, c1, ai, ci, ak, ck, hr c a1 ai ak h1, fun j v hv => cell_base (h2 j v hv) hbb hb⟩
theorem Irow.base {B : Nat} {w w' : World} {a : Option Addr} {l : List Int} (h : Irow w a l) (hu : l = [] ∨ Under B a) (hb : Below B w w') : Irow w' a l := by
  rcases hu with hu | hu
  · exact .inl hu
  rcases h with h | ⟨b, off, e, hh⟩
  · exact .inl h
  · exact .inr ⟨b, off, e, fun i x hx => cell_base (hh i x hx) (show b < B from hu ⟨b, off, none⟩ e) hb⟩
theorem Row.base {β : Type} {sv : β → Value} {B : Nat} {w w' : World} {a : Option Addr} {l : List (ByteArray × β)} (h : L6.Row sv w a l) (hu : l = [] ∨ Under B a) (hb : Below B w w') : L6.Row sv w' a l := by
  rcases hu with hu | hu
  · exact .inl hu
  rcases h with h | ⟨b, off, e, hh⟩
  · exact .inl h
  · exact .inr ⟨b, off, e, fun i x hx => ⟨cell_base (hh i x hx).1 (show b < B from hu ⟨b, off, none⟩ e) hb, cell_base (hh i x hx).2 (show b < B from hu ⟨b, off, none⟩ e) hb⟩⟩
theorem ClAt.base {B : Nat} {w w' : World} {c : Cl} {a1 ai ak : Option Addr} (h : ClAt B w c a1 ai ak) (hb : Below B w w') : ClAt B w' c a1 ai ak := ⟨h.ints.base h.u1 hb, ⟨Row.base h.has.1 h.ui hb, Row.base h.has.2 h.uk hb⟩, h.u1, h.ui, h.uk, h.few, h.n64⟩
theorem Cls.base {B : Nat} {w w' : World} {a : Option Addr} {l : List Cl} (h : Cls B w a l) (hb : Below B w w') : Cls B w' a l := h.grow hb (fun _ _ _ _ hc => hc.base hb)
theorem Cls.at {B : Nat} {w : World} {a : Option Addr} {l : List Cl} (h : Cls B w a l) {k : Nat} (hk : k < l.length) : ∃ b off, a = some ⟨b, off, none⟩ ∧ b < B ∧ ∃ a1 c1 ai ci ak ck, ClAt B w l[k] a1 ai ak ∧ w.cell? ⟨b, off + k * 6, none⟩ = some (.int .i64 l[k].kind) ∧ w.cell? ⟨b, off + k * 6 + 1, none⟩ = some (.int .i64 l[k].n) ∧ w.cell? ⟨b, off + k * 6 + 2, none⟩ = some (.slice a1 l[k].kids.length c1) ∧
    w.cell? ⟨b, off + k * 6 + 3, none⟩ = some (.bool l[k].nd.leaf) ∧ w.cell? ⟨b, off + k * 6 + 4, none⟩ = some (.slice ai l[k].nd.its.length ci) ∧ w.cell? ⟨b, off + k * 6 + 5, none⟩ = some (.slice ak l[k].nd.kds.length ck) := by
  rcases h with rfl | ⟨b, off, e, hbb, hh⟩
  · simp at hk
  · obtain ⟨a1, c1, ai, ci, ak, ck, h1, h2⟩ := hh k l[k] (List.getElem?_eq_getElem hk)
    exact ⟨b, off, e, hbb, a1, c1, ai, ci, ak, ck, h1, h2 0 _ rfl, h2 1 _ rfl, h2 2 _ rfl, h2 3 _ rfl, h2 4 _ rfl, h2 5 _ rfl⟩

set_option maxHeartbeats 2000000 in
set_option maxRecDepth 20000 in
theorem long_any (B : Nat) (l : List Cl) (a : Option Addr) (cap : Nat) (w : World) (hc : Cls B w a l) (hB : B ≤ w.heap.size) (hl : l.length ≤ maxLen) :
    Calls Tryz.prog 10 #[.slice a l.length cap] w fun e w' => LongSaid l w e w' := by
  unfold maxLen at hl
  by_cases h1 : 100 < l.length
  · have h1' : (100 : Int) < (l.length : Int) := by omega
    clear hc
    go_enter Tryz.func10, Tryz.ntmps10
    go_wp2
    go_ret
    exact ⟨true, rfl, (fun h => by cases h), Below.refl _ _⟩
  · have h1' : ¬ (100 : Int) < (l.length : Int) := by omega
    have HC := hide hc
    have HBB := hide hB
    clear hc hB
    go_enter Tryz.func10, Tryz.ntmps10
    go_wp2
    go_loopw [3] (fun t wr => ∃ k : Nat, k ≤ l.length ∧ t = .int .i64 (k : Int) ∧ (∀ j (hj : j < l.length), j < k → l[j].kids.length ≤ 60 ∧ L6.Few l[j].nd) ∧ Below w.heap.size w wr) (fun t _ => l.length - (intOf t).toNat)
    case atStart => exact ⟨0, Nat.zero_le _, rfl, (fun j hj h => absurd h (Nat.not_lt_zero _)), Below.refl _ _⟩
    case round =>
      obtain ⟨k, hk, rfl, hall, hb⟩ := hrel
      have HA := hide hall
      have HB := hide hb
      by_cases hlt : k < l.length
      · obtain ⟨b, off, rfl, hbb, a1, c1, ai, ci, ak, ck, hcl, q0, q1, q2, q3, q4, q5⟩ := ((unhide HC).grow (hb.mono (unhide HBB)) (fun c a1 ai ak h => h.grow hb)).at hlt
        have hlt' : (k : Int) < (l.length : Int) := by omega
        have HCL := hide hcl
        have hfw := hcl.few
        unfold maxLen at hfw
        obtain ⟨C, hC⟩ : ∃ x, x = l[k] := ⟨_, rfl⟩
        rw [← hC] at HCL q2 q3 q4 q5 hfw
        have HCE := hide hC
        clear hall hb hcl q0 q1 hC
        by_cases h60 : 60 < C.kids.length
        · have h60' : (60 : Int) < (C.kids.length : Int) := by omega
          go_wp2
          go_ret
          exact ⟨true, rfl, (fun h => by cases h), unhide HB⟩
        · have h60' : ¬ (60 : Int) < (C.kids.length : Int) := by omega
          go_wp2_with fail
          refine (L6.great_any C.nd ai ak ci ck wr (unhide HCL).has (unhide HCL).few.2.1 (unhide HCL).few.2.2).mono ?_
          rintro e w1 ⟨g, rfl, hg, hb1⟩
          have HG := hide hg
          have HB1 := hide (below_then (unhide HB) hb1)
          clear hg hb1
          cases g with
          | true =>
            go_wp2
            go_ret
            exact ⟨true, rfl, (fun h => by cases h), unhide HB1⟩
          | false =>
            go_wp2
            go_roundw
            case rel =>
              refine ⟨k + 1, by omega, by go_num, fun j hj hjk => ?_, unhide HB1⟩
              by_cases e : j = k
              · subst e
                rw [← unhide HCE]
                exact ⟨by omega, by first | exact unhide HG rfl | exact unhide HG trivial⟩
              · exact unhide HA j hj (by omega)
            case measure => simp [intOf]; omega
      · obtain rfl : k = l.length := by omega
        clear hall hb
        go_wp2
        go_ret
        refine ⟨false, rfl, fun _ => ⟨by omega, fun c hc => ?_⟩, unhide HB⟩
        obtain ⟨j, hj, rfl⟩ := List.getElem_of_mem hc
        exact unhide HA j hj hj
end Go.Proofs.YteokbefcdpjkaaaGreatDoor

/- A heap, and how often each place is held from outside, in memory; what a change does. -/
namespace Go.Proofs.YteokbefcdpjkaaaGreatDoor
open Go.ChangeShapes Go.WideShapes Go.ChangeAt Go.RowKit

/-- a heap, how often each place is held from outside, what was put -/
structure Hs where
  h : Hp
  out : Nat → Nat
  put : Nat → L6.Nd
def setN {α : Type} (f : Nat → α) (i : Nat) (v : α) : Nat → α := fun j => if j = i then v else f j
/-- what a change makes of it -/
def chg (s : Hs) (c : Cl) : Hs :=
  if c.kind = 2 ∨ c.kind = 6 then s
  else if c.kind = 3 then (if L5.holdE 2 s.h.al c.n = 0 then { s with h := holdR s.h c.n, out := setN s.out c.n.toNat (s.out c.n.toNat + 1) } else { s with h := holdR s.h c.n })
  else if c.kind = 4 then (if 0 ≤ c.n ∧ c.n < 16 ∧ 0 < s.out c.n.toNat then (if L5.dropE 2 s.h.al c.n = 0 then { s with h := dropR s.h c.n, out := setN s.out c.n.toNat (s.out c.n.toNat - 1) } else { s with h := dropR s.h c.n }) else s)
  else if c.kind = 5 then { s with h := settleM s.h }
  else if (putR s.h (nodeC c)).2.1 = 0 then { h := (putR s.h (nodeC c)).2.2, out := setN s.out (putR s.h (nodeC c)).1.toNat 1, put := setN s.put (putR s.h (nodeC c)).1.toNat (nodeC c) } else { s with h := (putR s.h (nodeC c)).2.2 }

abbrev V3 := Value × Value × Value
structure HeldAt (w : World) (o p : Nat) (out : Nat → Nat) (pv : Nat → V3) : Prop where
  ptr : w.cell? ⟨o, 0, none⟩ = some (.pointer (some ⟨p, 0, none⟩))
  cnt : ∀ i, i < 16 → w.cell? ⟨o, 1 + i, none⟩ = some (.int .i64 (out i : Int))
  nod : ∀ i, i < 16 → w.cell? ⟨o, 17 + i * 3, none⟩ = some (pv i).1 ∧ w.cell? ⟨o, 17 + i * 3 + 1, none⟩ = some (pv i).2.1 ∧ w.cell? ⟨o, 17 + i * 3 + 2, none⟩ = some (pv i).2.2
  free : ∀ i, w.frozen? ⟨o, i, none⟩ = false
  kind : ∃ cs, w.heap[o]? = some (.cells cs 54 (0, 0))
variable {w w' : World} {o p d : Nat} {out : Nat → Nat} {pv : Nat → V3}
theorem HeldAt.lt (h : HeldAt w o p out pv) : o < w.heap.size := World.block_lt_of_cell? w ⟨o, 0, none⟩ h.ptr
theorem frozen_same {x i : Nat} (hs : w'.heap[x]? = w.heap[x]?) : w'.frozen? ⟨x, i, none⟩ = w.frozen? ⟨x, i, none⟩ := World.frozen?_of_block hs
theorem HeldAt.keep {fq : List Nat} (h : HeldAt w o p out pv) (hm : Moves fq w w') (ho : o ∉ fq) : HeldAt w' o p out pv :=
  ⟨cell_moves hm h.ptr ho, fun i hi => cell_moves hm (h.cnt i hi) ho, fun i hi => ⟨cell_moves hm (h.nod i hi).1 ho, cell_moves hm (h.nod i hi).2.1 ho, cell_moves hm (h.nod i hi).2.2 ho⟩, fun i => (frozen_same (hm.block o h.lt ho)).trans (h.free i), by obtain ⟨cs, hk⟩ := h.kind; exact ⟨cs, (hm.block o h.lt ho).trans hk⟩⟩
theorem HeldAt.grow (h : HeldAt w o p out pv) (hb : Below w.heap.size w w') : HeldAt w' o p out pv := h.keep (L5.Moves.of_below [] hb) List.not_mem_nil
theorem cell_other {x i j : Nat} {u v : Value} (h : w.cell? ⟨x, i, none⟩ = some v) (hn : i ≠ j) : (w.setCell ⟨x, j, none⟩ u).cell? ⟨x, i, none⟩ = some v :=
  (World.cell?_setCell_other w ⟨x, j, none⟩ ⟨x, i, none⟩ u (fun e => hn (by injection e with _ e _; exact e.symm))).trans h
theorem cell_this {x j : Nat} {u v : Value} (h : w.cell? ⟨x, j, none⟩ = some v) : (w.setCell ⟨x, j, none⟩ u).cell? ⟨x, j, none⟩ = some u := by
  have hb := h
  unfold World.cell? at hb
  cases hq : w.heap[x]? with
  | none => rw [hq] at hb; cases hb
  | some ob =>
    rw [hq] at hb
    cases ob with
    | cells cs t fz =>
      have hj : j < cs.size := (Array.getElem?_eq_some_iff.1 hb).1
      simp [World.cell?, World.setCell, Array.getElem?_modify, hq, hj]
    | _ => cases hb
theorem frozen_set {x i j : Nat} {u : Value} : (w.setCell ⟨x, j, none⟩ u).frozen? ⟨x, i, none⟩ = w.frozen? ⟨x, i, none⟩ := by
  unfold World.frozen? World.setCell
  simp only [Array.getElem?_modify]
  cases hq : w.heap[x]? with
  | none => simp
  | some ob => cases ob <;> simp
theorem kind_set {t : TypeId} (h : ∃ cs, w.heap[o]? = some (.cells cs t (0, 0))) (j : Nat) (u : Value) : ∃ cs, (w.setCell ⟨o, j, none⟩ u).heap[o]? = some (.cells cs t (0, 0)) := by
  obtain ⟨cs, h⟩ := h
  exact ⟨cs.setIfInBounds j u, by simp [World.setCell, Array.getElem?_modify, h]⟩
theorem HeldAt.setOut (h : HeldAt w o p out pv) {i : Nat} (hi : i < 16) (v : Nat) : HeldAt (w.setCell ⟨o, 1 + i, none⟩ (.int .i64 (v : Int))) o p (setN out i v) pv := by
  refine ⟨cell_other h.ptr (by omega), fun j hj => ?_, fun j hj => ⟨cell_other (h.nod j hj).1 (by omega), cell_other (h.nod j hj).2.1 (by omega), cell_other (h.nod j hj).2.2 (by omega)⟩, fun j => frozen_set.trans (h.free j), kind_set h.kind _ _⟩
  unfold setN
  by_cases e : j = i
  · subst e
    rw [if_pos rfl]
    exact cell_this (h.cnt j hj)
  · rw [if_neg e]
    exact cell_other (h.cnt j hj) (by omega)
theorem HeldAt.setPut (h : HeldAt w o p out pv) {i : Nat} (hi : i < 16) (v : V3) : HeldAt (((w.setCell ⟨o, 17 + i * 3, none⟩ v.1).setCell ⟨o, 17 + i * 3 + 1, none⟩ v.2.1).setCell ⟨o, 17 + i * 3 + 2, none⟩ v.2.2) o p out (setN pv i v) := by
  refine ⟨cell_other (cell_other (cell_other h.ptr (by omega)) (by omega)) (by omega), fun j hj => cell_other (cell_other (cell_other (h.cnt j hj) (by omega)) (by omega)) (by omega), fun j hj => ?_, fun j => (frozen_set.trans (frozen_set.trans frozen_set)).trans (h.free j), kind_set (kind_set (kind_set h.kind _ _) _ _) _ _⟩
  unfold setN
  obtain ⟨n0, n1, n2⟩ := h.nod j hj
  by_cases e : j = i
  · subst e
    rw [if_pos rfl]
    exact ⟨cell_other (cell_other (cell_this n0) (by omega)) (by omega), cell_other (cell_this (cell_other n1 (by omega))) (by omega), cell_this (cell_other (cell_other n2 (by omega)) (by omega))⟩
  · rw [if_neg e]
    exact ⟨cell_other (cell_other (cell_other n0 (by omega)) (by omega)) (by omega), cell_other (cell_other (cell_other n1 (by omega)) (by omega)) (by omega), cell_other (cell_other (cell_other n2 (by omega)) (by omega)) (by omega)⟩

/-- none of these blocks -/
def Out (F : List Nat) (o : Nat) (w : World) (a : Option Addr) : Prop := ∀ x, a = some x → x.block ∉ F ∧ x.block ≠ o ∧ x.block < w.heap.size
theorem Row.moved {β : Type} {sv : β → Value} {F : List Nat} {a : Option Addr} {l : List (ByteArray × β)} (h : L6.Row sv w a l) (hu : Out F o w a) (hm : Moves F w w') : L6.Row sv w' a l := by
  rcases h with h | ⟨b, off, e, hh⟩
  · exact .inl h
  · exact .inr ⟨b, off, e, fun i x hx => ⟨cell_moves hm (hh i x hx).1 (hu ⟨b, off, none⟩ e).1, cell_moves hm (hh i x hx).2 (hu ⟨b, off, none⟩ e).1⟩⟩
theorem Row.setO {β : Type} {sv : β → Value} {F : List Nat} {a : Option Addr} {l : List (ByteArray × β)} (h : L6.Row sv w a l) (hu : Out F o w a) (j : Nat) (u : Value) : L6.Row sv (w.setCell ⟨o, j, none⟩ u) a l := by
  rcases h with h | ⟨b, off, e, hh⟩
  · exact .inl h
  · have hb : b ≠ o := (hu ⟨b, off, none⟩ e).2.1
    exact .inr ⟨b, off, e, fun i x hx => ⟨(World.cell?_setCell_other w ⟨o, j, none⟩ ⟨b, off + i * 2, none⟩ u (fun e => hb (by injection e with e1 _ _; exact e1.symm))).trans (hh i x hx).1, (World.cell?_setCell_other w ⟨o, j, none⟩ ⟨b, off + i * 2 + 1, none⟩ u (fun e => hb (by injection e with e1 _ _; exact e1.symm))).trans (hh i x hx).2⟩⟩
/-- the node that was put at a place, in memory -/
def Kept (F : List Nat) (o : Nat) (w : World) (v : V3) (n : L6.Nd) : Prop := ∃ ai ci ak ck, v = (.bool n.leaf, .slice ai n.its.length ci, .slice ak n.kds.length ck) ∧ L6.Has w n ai ak ∧ (n.its = [] ∨ Out F o w ai) ∧ (n.kds = [] ∨ Out F o w ak)
theorem Out.next {F F' : List Nat} {a : Option Addr} (h : Out F o w a) (hs : w.heap.size ≤ w'.heap.size) (hf : ∀ x ∈ F', x ∈ F ∨ w.heap.size ≤ x) : Out F' o w' a := fun x hx => by
  obtain ⟨h1, h2, h3⟩ := h x hx
  refine ⟨fun hq => ?_, h2, by omega⟩
  rcases hf _ hq with h4 | h4
  · exact h1 h4
  · omega
/-- a row that stands below, or in what is new, is none of these -/
theorem Out.of {β : Type} {sv : β → Value} {F : List Nat} {B sz : Nat} {a : Option Addr} {l : List (ByteArray × β)} (hr : L6.Row sv w a l) (hs : l = [] ∨ Stands B sz a) (hF : ∀ x ∈ F, B ≤ x ∧ x < sz) (ho : B ≤ o ∧ o < sz) : l = [] ∨ Out F o w a := by
  rcases hs with hs | hs
  · exact .inl hs
  rcases hr with h | ⟨b, off, e, hh⟩
  · exact .inl h
  · by_cases hl : l = []
    · exact .inl hl
    · right
      intro x hx
      have hxb : x.block = b := by rw [e] at hx; injection hx with hx; rw [← hx]
      obtain ⟨y, hy⟩ : ∃ y, l[0]? = some y := ⟨_, List.getElem?_eq_getElem (List.length_pos_iff.2 hl)⟩
      have hlt := World.block_lt_of_cell? _ _ (hh 0 y hy).1
      have hst := hs x hx
      rw [hxb] at hst ⊢
      refine ⟨fun hq => ?_, ?_, hlt⟩
      · have := hF b hq; omega
      · omega
theorem Kept.next {F F' : List Nat} {v : V3} {n : L6.Nd} (h : Kept F o w v n) (hm : Moves F w w') (hf : ∀ x ∈ F', x ∈ F ∨ w.heap.size ≤ x) : Kept F' o w' v n := by
  obtain ⟨ai, ci, ak, ck, e, hh, h1, h2⟩ := h
  exact ⟨ai, ci, ak, ck, e, ⟨h1.elim .inl (fun h1 => Row.moved hh.1 h1 hm), h2.elim .inl (fun h2 => Row.moved hh.2 h2 hm)⟩, h1.imp id (fun h1 => h1.next hm.size hf), h2.imp id (fun h2 => h2.next hm.size hf)⟩
theorem Kept.setO {F : List Nat} {v : V3} {n : L6.Nd} (h : Kept F o w v n) (j : Nat) (u : Value) : Kept F o (w.setCell ⟨o, j, none⟩ u) v n := by
  obtain ⟨ai, ci, ak, ck, e, hh, h1, h2⟩ := h
  have hs : (w.setCell ⟨o, j, none⟩ u).heap.size = w.heap.size := by simp [World.setCell]
  exact ⟨ai, ci, ak, ck, e, ⟨h1.elim .inl (fun h1 => Row.setO hh.1 h1 j u), h2.elim .inl (fun h2 => Row.setO hh.2 h2 j u)⟩, h1.imp id (fun h1 => h1.next (Nat.le_of_eq hs.symm) (fun x hx => .inl hx)), h2.imp id (fun h2 => h2.next (Nat.le_of_eq hs.symm) (fun x hx => .inl hx))⟩

/-- the rows of strings of W stand as they were -/
def Fr (W w : World) : Prop := ∀ (x : Nat) (cs : Array Value), W.heap[x]? = some (.cells cs 64 (0, 0)) → w.heap[x]? = some (.cells cs 64 (0, 0))
theorem Fr.refl (W : World) : Fr W W := fun _ _ h => h
theorem lt_heap {W : World} {x : Nat} {ob : Obj} (h : W.heap[x]? = some ob) : x < W.heap.size := (Array.getElem?_eq_some_iff.1 h).1
theorem Fr.of {W : World} (hb : Below W.heap.size W w) : Fr W w := fun x _ h => (hb.block x (lt_heap h)).trans h
theorem Fr.grow {W : World} (h : Fr W w) (hb : Below w.heap.size w w') : Fr W w' := fun x cs hx => (hb.block x (lt_heap (h x cs hx))).trans (h x cs hx)
theorem Fr.moves {W : World} {F : List Nat} (h : Fr W w) (hm : Moves F w w') (hF : ∀ x ∈ F, ∀ cs, w.heap[x]? ≠ some (.cells cs 64 (0, 0))) : Fr W w' := fun x cs hx => (hm.block x (lt_heap (h x cs hx)) (fun hq => hF x hq cs (h x cs hx))).trans (h x cs hx)
theorem Fr.setO {W : World} (h : Fr W w) (hk : ∃ cs, w.heap[o]? = some (.cells cs 54 (0, 0))) (j : Nat) (u : Value) : Fr W (w.setCell ⟨o, j, none⟩ u) := fun x cs hx => by
  have h1 := h x cs hx
  have hne : o ≠ x := by
    rintro rfl
    obtain ⟨cs', hk⟩ := hk
    rw [hk] at h1
    injection h1 with h1
    injection h1 with _ h1
    exact absurd h1 (by decide)
  have : (w.setCell ⟨o, j, none⟩ u).heap[x]? = w.heap[x]? := by simp [World.setCell, Array.getElem?_modify, hne]
  rw [this]
  exact h1
theorem IsHeap.no64 {c : Nat} {F : List Nat} {h : Hp} (H : IsHeap w p d h c F) : ∀ x ∈ F, ∀ cs, w.heap[x]? ≠ some (.cells cs 64 (0, 0)) := by
  obtain ⟨a, b, kb, fd, kf, H, rfl⟩ := H
  intro x hx cs hk
  simp only [foot, List.mem_cons] at hx
  rcases hx with rfl | rfl | rfl | rfl | hx
  · have := H.blk; rw [hk] at this; injection this with this; injection this with _ this; exact absurd this (by decide)
  · have := H.al.blk; rw [hk] at this; injection this with this; injection this with _ this; exact absurd this (by decide)
  · obtain ⟨es, cl, this⟩ := H.al.map.kind; rw [hk] at this; cases this
  · obtain ⟨es, cl, this⟩ := H.km.kind; rw [hk] at this; cases this
  · rcases disk_kinds H.dk hx with ⟨es, cl, this⟩ | ⟨cs, this⟩ | ⟨cs, this⟩
    · rw [hk] at this; cases this
    · rw [hk] at this; injection this with this; injection this with _ this; exact absurd this (by decide)
    · rw [hk] at this; injection this with this; injection this with _ this; exact absurd this (by decide)

/-- all of it in memory, above B -/
structure HeldIn (B : Nat) (W w : World) (o p d : Nat) (s : Hs) (c : Nat) (F : List Nat) (pv : Nat → V3) : Prop where
  heap : IsHeap w p d s.h c F
  held : HeldAt w o p s.out pv
  bel : Below B W w
  hF : ∀ x ∈ F, B ≤ x
  ho : B ≤ o
  no : o ∉ F
  kept : ∀ i : Nat, i < 16 → 0 < s.h.cnt (i : Int) → Kept F o w (pv i) (s.put i)
  fr : Fr W w
theorem HeldIn.size {B : Nat} {W : World} {s : Hs} {c : Nat} {F : List Nat} (h : HeldIn B W w o p d s c F pv) : B ≤ w.heap.size := Nat.le_trans h.ho (Nat.le_of_lt h.held.lt)
/-- the heap has turned -/
theorem HeldIn.turn {B : Nat} {W : World} {s : Hs} {c c' : Nat} {F : List Nat} {h' : Hp} (h : HeldIn B W w o p d s c F pv) (k : HTurned w w' p d h' c' F) (hc : ∀ i : Nat, i < 16 → 0 < h'.cnt (i : Int) → 0 < s.h.cnt (i : Int)) : ∃ F', HeldIn B W w' o p d { s with h := h' } c' F' pv := by
  have hb := k.below h.bel h.hF h.size
  obtain ⟨F', k1, k2, k3⟩ := k
  refine ⟨F', k1, h.held.keep k2 h.no, hb, fun x hx => ?_, h.ho, fun hx => ?_, fun i hi hp => (h.kept i hi (hc i hi hp)).next k2 k3, h.fr.moves k2 h.heap.no64⟩
  · rcases k3 x hx with h1 | h1
    · exact h.hF x h1
    · exact Nat.le_trans h.size h1
  · rcases k3 o hx with h1 | h1
    · exact h.no h1
    · have := h.held.lt; omega
theorem HeldIn.grow {B : Nat} {W : World} {s : Hs} {c : Nat} {F : List Nat} (h : HeldIn B W w o p d s c F pv) (hb : Below w.heap.size w w') : HeldIn B W w' o p d s c F pv :=
  ⟨h.heap.grow hb, h.held.grow hb, h.bel.trans (hb.mono h.size), h.hF, h.ho, h.no, fun i hi hp => (h.kept i hi hp).next (L5.Moves.of_below _ hb) (fun _ hx => .inl hx), h.fr.grow hb⟩
theorem HeldIn.mono {B : Nat} {W : World} {s : Hs} {c c' : Nat} {F : List Nat} (h : HeldIn B W w o p d s c F pv) (hc : c ≤ c') : HeldIn B W w o p d s c' F pv := ⟨h.heap.mono hc, h.held, h.bel, h.hF, h.ho, h.no, h.kept, h.fr⟩
theorem IsHeap.set {c : Nat} {F : List Nat} {h : Hp} (H : IsHeap w p d h c F) (ho : o ∉ F) (hk : ∀ cs, w.heap[o]? ≠ some (.cells cs 3 (0, 0))) (h0 : 0 < o) (j : Nat) (u : Value) : IsHeap (w.setCell ⟨o, j, none⟩ u) p d h c F := by
  obtain ⟨a, b, kb, fd, kf, H, rfl⟩ := H
  have hm : Moves [o] w (w.setCell ⟨o, j, none⟩ u) := mv53 (L3.Moves.set _ _ _ _ (by simp))
  refine ⟨a, b, kb, fd, kf, H.keep hm (fun x hx => by simp at hx; rw [hx]; exact ho) (by simp; omega) (fun q hq => ?_), rfl⟩
  refine (H.kid q hq).same (fun v hv g hg => hm.block g ?_ ?_)
  · have hI : Ints w v (h.kids q) := by have := H.kid q hq; rw [hv] at this; exact this
    exact hI.lt g hg
  · have hI : Ints w v (h.kids q) := by have := H.kid q hq; rw [hv] at this; exact this
    obtain ⟨cur, hcur⟩ := hI.kind hg
    simp
    rintro rfl
    exact hk _ hcur
/-- a cell beside the heap is set -/
theorem HeldIn.set {B : Nat} {W : World} {s : Hs} {c : Nat} {F : List Nat} (h : HeldIn B W w o p d s c F pv) (j : Nat) (u : Value) : IsHeap (w.setCell ⟨o, j, none⟩ u) p d s.h c F ∧ Below B W (w.setCell ⟨o, j, none⟩ u) ∧ (∀ i : Nat, i < 16 → 0 < s.h.cnt (i : Int) → Kept F o (w.setCell ⟨o, j, none⟩ u) (pv i) (s.put i)) ∧ Fr W (w.setCell ⟨o, j, none⟩ u) := by
  obtain ⟨cs, hk⟩ := h.held.kind
  have h0 : 0 < o := by
    have ht := h.heap.tab
    rcases Nat.eq_zero_or_pos o with e | e
    · have h1 := ht 0 (by omega)
      have h2 := h.held.ptr
      rw [e] at h2
      rw [h1] at h2
      cases h2
    · exact e
  exact ⟨h.heap.set h.no (fun cs' e => by rw [hk] at e; injection e with e; injection e with _ e; exact absurd e (by decide)) h0 j u, h.bel.setCell h.ho u, fun i hi hp => (h.kept i hi hp).setO j u, h.fr.setO h.held.kind j u⟩
theorem HeldIn.setOut {B : Nat} {W : World} {s : Hs} {c : Nat} {F : List Nat} (h : HeldIn B W w o p d s c F pv) {i : Nat} (hi : i < 16) (v : Nat) : HeldIn B W (w.setCell ⟨o, 1 + i, none⟩ (.int .i64 (v : Int))) o p d { s with out := setN s.out i v } c F pv := by
  obtain ⟨k1, k2, k3, k4⟩ := h.set (1 + i) (.int .i64 (v : Int))
  exact ⟨k1, h.held.setOut hi v, k2, h.hF, h.ho, h.no, k3, k4⟩
end Go.Proofs.YteokbefcdpjkaaaGreatDoor

/- Plain mathematics of a heap: what calls do to how many hold a place. -/
namespace Go.Proofs.YteokbefcdpjkaaaGreatDoor

theorem hold_none (l : List L5.St) (p : Int) (h : cntL l p = 0) : L5.holdM 2 l p = l := by
  unfold L5.holdM
  have h0 : L5.cntS (L5.sec 2 l p) = 0 := h
  rw [if_neg (by rw [h0]; decide)]
  have e : L5.holdS (L5.sec 2 l p) = L5.sec 2 l p := by
    match hs : L5.sec 2 l p with
    | none => rfl
    | some (0, g) => rfl
    | some (k + 1, g) => rw [hs] at h0; exact absurd h0 (by simp [L5.cntS])
  rw [e, upd_self]
theorem hold_full (l : List L5.St) (p : Int) (h : cntL l p = 5000) : L5.holdM 2 l p = l := by
  unfold L5.holdM
  exact if_pos h
theorem cnt_hold_pos (l : List L5.St) (p q : Int) (h : 0 < cntL (L5.holdM 2 l p) q) : 0 < cntL l q := by
  by_cases h0 : cntL l p = 0
  · rw [hold_none l p h0] at h; exact h
  · by_cases h1 : cntL l p = 5000
    · rw [hold_full l p h1] at h; exact h
    · rw [cnt_hold l p q (by omega) h1] at h
      split at h
      · rename_i e; rw [e]; omega
      · exact h
theorem cnt_holdAll_pos (ks : List Int) : ∀ (l : List L5.St) (q : Int), 0 < cntL (holdAll l ks) q → 0 < cntL l q := by
  induction ks with
  | nil => intro l q h; exact h
  | cons k r ih => intro l q h; exact cnt_hold_pos l k q (ih _ q h)
theorem fold_cnt {f : Nat} (hf : ∀ (h : Hp) (p q : Int), (dropH f h p).cnt q ≤ h.cnt q) : ∀ (ks : List Int) (h : Hp) (q : Int), (ks.foldl (dropH f) h).cnt q ≤ h.cnt q
  | [], _, _ => Nat.le_refl _
  | k :: r, h, q => Nat.le_trans (fold_cnt hf r _ q) (hf h k q)
theorem cnt_dropH (f : Nat) : ∀ (h : Hp) (p q : Int), (dropH f h p).cnt q ≤ h.cnt q := by
  induction f with
  | zero => intro h p q; exact Nat.le_refl _
  | succ f ih =>
    intro h p q
    have hd : cntL (L5.dropM 2 h.al p h.gen) q ≤ h.cnt q := by
      rw [cnt_drop]
      split
      · rename_i e; rw [e]; show cntL h.al p - 1 ≤ cntL h.al p; omega
      · exact Nat.le_refl _
    unfold dropH
    split
    · exact Nat.le_refl _
    · split
      · exact hd
      · exact Nat.le_trans (fold_cnt ih _ _ q) hd
theorem cnt_settle (h : Hp) (q : Int) : (settleM h).cnt q = h.cnt q := by
  unfold settleM
  split
  · rfl
  · exact cnt_free _ _ _
theorem cnt_take {l : List L5.St} {i : Nat} (hi : L5.takeI l = some i) (g q : Int) : cntL (L5.takeM l g) q = if q = (2 : Int) + (i : Int) then 1 else cntL l q := by
  obtain ⟨hin, _, hm⟩ := take_at hi g
  rw [hm, cnt_upd hin]
  rfl
theorem storeR_bad {h : Hp} {S : ByteArray} (he : (storeR h S).2.1 ≠ 0) : (storeR h S).2.2.al = h.al := by
  unfold storeR at he ⊢
  by_cases h1 : L5.takeE h.al = 0
  · rw [if_neg (fun hn => hn h1)] at he ⊢
    by_cases h2 : L3.writeE h.dk (L5.takeN 2 h.al) S = 0
    · rw [if_neg (fun hn => hn h2)] at he
      exact absurd rfl he
    · rw [if_pos h2]
      exact take_drop h1 h.gen
  · rw [if_pos h1]
/-- Put that is refused leaves all but the disk -/
theorem put_bad {h : Hp} {n : L6.Nd} (he : (putR h n).2.1 ≠ 0) : (putR h n).2.2.al = h.al ∧ (putR h n).2.2.kids = h.kids ∧ (putR h n).2.2.gen = h.gen := by
  unfold putR at he ⊢
  by_cases h1 : (L6.encodeN n).2 = 0
  · rw [if_neg (fun hn => hn h1)] at he ⊢
    by_cases h2 : mayE h.al (places n) = 0
    · rw [if_neg (fun hn => hn h2)] at he ⊢
      by_cases h3 : (storeR h (sectorN h.gen n)).2.1 = 0
      · rw [if_neg (fun hn => hn h3)] at he
        exact absurd rfl he
      · rw [if_pos h3]
        refine ⟨storeR_bad h3, ?_, storeR_gen _⟩
        show (storeR h (sectorN h.gen n)).2.2.kids = h.kids
        unfold storeR
        split
        · rfl
        · split <;> rfl
    · rw [if_pos h2]; exact ⟨rfl, rfl, rfl⟩
  · rw [if_pos h1]; exact ⟨rfl, rfl, rfl⟩
/-- Put that is done -/
theorem put_done {h : Hp} {n : L6.Nd} (he : (putR h n).2.1 = 0) : ∃ i, L5.takeI h.al = some i ∧ (L6.encodeN n).2 = 0 ∧ mayE h.al (places n) = 0 ∧ putR h n = ((2 : Int) + (i : Int), 0, { dk := L3.writeM h.dk ((2 : Int) + (i : Int)) (sectorN h.gen n), al := holdAll (L5.takeM h.al h.gen) (places n), gen := h.gen, kids := setK h.kids (2 + i) (places n) }) := by
  unfold putR at he ⊢
  by_cases h1 : (L6.encodeN n).2 = 0
  · rw [if_neg (fun hn => hn h1)] at he ⊢
    by_cases h2 : mayE h.al (places n) = 0
    · rw [if_neg (fun hn => hn h2)] at he ⊢
      by_cases h3 : (storeR h (sectorN h.gen n)).2.1 = 0
      · rw [if_neg (fun hn => hn h3)]
        obtain ⟨i, hi, hst, _⟩ := storeR_ok h3
        refine ⟨i, hi, h1, h2, ?_⟩
        rw [hst]
        have e : ((2 : Int) + (i : Int)).toNat = 2 + i := by omega
        simp only [e]
      · rw [if_pos h3] at he
        exact absurd he h3
    · rw [if_pos h2] at he
      exact absurd he h2
  · rw [if_pos h1] at he
    exact absurd (by simpa using he) h1
theorem cnt_put_pos {h : Hp} {n : L6.Nd} (q : Int) (hp : 0 < (putR h n).2.2.cnt q) : 0 < h.cnt q ∨ ((putR h n).2.1 = 0 ∧ q = (putR h n).1) := by
  by_cases he : (putR h n).2.1 = 0
  · obtain ⟨i, hi, _, _, e⟩ := put_done he
    rw [e] at hp ⊢
    have h1 : 0 < cntL (L5.takeM h.al h.gen) q := cnt_holdAll_pos _ _ q hp
    rw [cnt_take hi] at h1
    split at h1
    · rename_i hq
      exact .inr ⟨rfl, hq⟩
    · exact .inl h1
  · left
    have := (put_bad he).1
    unfold Hp.cnt at hp ⊢
    rw [this] at hp
    exact hp
end Go.Proofs.YteokbefcdpjkaaaGreatDoor

/- What a change does. -/
namespace Go.Proofs.YteokbefcdpjkaaaGreatDoor
open Go.ChangeShapes Go.WideShapes Go.ChangeAt Go.RowKit
variable {B : Nat} {W : World} {o p d : Nat} {s : Hs} {c : Nat} {F : List Nat} {pv : Nat → V3}
open L6 (takeY takeN)

set_option maxHeartbeats 4000000 in
set_option maxRecDepth 20000 in
theorem chg2 (n : Int) (kids : List Int) (nd : L6.Nd) (a1 : Option Addr) (c1 : Nat) (ai : Option Addr) (ci : Nat) (ak : Option Addr) (ck : Nat) (w : World) (H : HeldIn B W w o p d s c F pv) (_hc : ClAt B W ⟨2, n, kids, nd⟩ a1 ai ak) :
    Calls Tryz.prog 18 #[.pointer (some ⟨o, 0, none⟩), .agg #[.int .i64 2, .int .i64 n, .slice a1 kids.length c1, .bool nd.leaf, .slice ai nd.its.length ci, .slice ak nd.kds.length ck]] w fun e w' => e = .returned (.tuple #[]) ∧ ∃ F' pv', HeldIn B W w' o p d (chg s ⟨2, n, kids, nd⟩) (c + 2) F' pv' := by
  have hs : chg s ⟨2, n, kids, nd⟩ = s := by unfold chg; rw [if_pos (by simp)]
  have HH := hide ((H.mono (Nat.le_add_right c 2)).grow (below_alloc w (.cells #[.int .i64 2, .int .i64 n, .slice a1 kids.length c1, .bool nd.leaf, .slice ai nd.its.length ci, .slice ak nd.kds.length ck] 45)))
  clear H
  go_enter Tryz.func18, Tryz.ntmps18
  go_wp2
  go_end0
  rw [hs]
  exact ⟨rfl, F, pv, unhide HH⟩
set_option maxHeartbeats 4000000 in
set_option maxRecDepth 20000 in
theorem chg6 (n : Int) (kids : List Int) (nd : L6.Nd) (a1 : Option Addr) (c1 : Nat) (ai : Option Addr) (ci : Nat) (ak : Option Addr) (ck : Nat) (w : World) (H : HeldIn B W w o p d s c F pv) (_hc : ClAt B W ⟨6, n, kids, nd⟩ a1 ai ak) :
    Calls Tryz.prog 18 #[.pointer (some ⟨o, 0, none⟩), .agg #[.int .i64 6, .int .i64 n, .slice a1 kids.length c1, .bool nd.leaf, .slice ai nd.its.length ci, .slice ak nd.kds.length ck]] w fun e w' => e = .returned (.tuple #[]) ∧ ∃ F' pv', HeldIn B W w' o p d (chg s ⟨6, n, kids, nd⟩) (c + 2) F' pv' := by
  have hs : chg s ⟨6, n, kids, nd⟩ = s := by unfold chg; rw [if_pos (by simp)]
  have HH := hide ((H.mono (Nat.le_add_right c 2)).grow (below_alloc w (.cells #[.int .i64 6, .int .i64 n, .slice a1 kids.length c1, .bool nd.leaf, .slice ai nd.its.length ci, .slice ak nd.kds.length ck] 45)))
  clear H
  go_enter Tryz.func18, Tryz.ntmps18
  go_wp2
  go_end0
  rw [hs]
  exact ⟨rfl, F, pv, unhide HH⟩
set_option maxHeartbeats 4000000 in
set_option maxRecDepth 20000 in
theorem chg5 (n : Int) (kids : List Int) (nd : L6.Nd) (a1 : Option Addr) (c1 : Nat) (ai : Option Addr) (ci : Nat) (ak : Option Addr) (ck : Nat) (w : World) (H : HeldIn B W w o p d s c F pv) (hc : ClAt B W ⟨5, n, kids, nd⟩ a1 ai ak) :
    Calls Tryz.prog 18 #[.pointer (some ⟨o, 0, none⟩), .agg #[.int .i64 5, .int .i64 n, .slice a1 kids.length c1, .bool nd.leaf, .slice ai nd.its.length ci, .slice ak nd.kds.length ck]] w fun e w' => e = .returned (.tuple #[]) ∧ ∃ F' pv', HeldIn B W w' o p d (chg s ⟨5, n, kids, nd⟩) (c + 2) F' pv' := by
  have hb0 := below_alloc w (.cells #[.int .i64 5, .int .i64 n, .slice a1 kids.length c1, .bool nd.leaf, .slice ai nd.its.length ci, .slice ak nd.kds.length ck] 45)
  have H1 := H.grow hb0
  have x0 := H1.held.ptr
  have q1 : (w.alloc (.cells #[.int .i64 5, .int .i64 n, .slice a1 kids.length c1, .bool nd.leaf, .slice ai nd.its.length ci, .slice ak nd.kds.length ck] 45)).cell? ⟨w.heap.size, 1, none⟩ = some (.int .i64 n) := by simp
  have hnb : w.heap.size ∉ F := fun hx => by have := H.heap.lt _ hx; omega
  have hne : w.heap.size ≠ o := by have := H.held.lt; omega
  have HNB := hide hnb
  have HNE := hide hne
  have HI := hide hc.n64.1
  have HH := hide H1
  clear hb0 H H1 hc hnb hne
  have hs : chg s ⟨5, n, kids, nd⟩ = { s with h := settleM s.h } := rfl
  clear q1
  go_enter Tryz.func18, Tryz.ntmps18
  go_wp2_with (go_at_call 23; refine (hsettle_any _ (unhide HH).heap).mono ?_; rintro e w2 ⟨rfl, ht⟩; have HX := hide ht; clear ht)
  go_end0
  rw [hs]
  obtain ⟨F', k⟩ := (unhide HH).turn (unhide HX) (fun i _ h => by rw [cnt_settle] at h; exact h)
  exact ⟨rfl, F', pv, k.mono (Nat.le_add_right c 2)⟩
end Go.Proofs.YteokbefcdpjkaaaGreatDoor

/- What a change does. -/
namespace Go.Proofs.YteokbefcdpjkaaaGreatDoor
open Go.ChangeShapes Go.WideShapes Go.ChangeAt Go.RowKit
variable {B : Nat} {W : World} {o p d : Nat} {s : Hs} {c : Nat} {F : List Nat} {pv : Nat → V3}
open L6 (takeY takeN)

set_option maxHeartbeats 4000000 in
set_option maxRecDepth 20000 in
theorem chg3 (n : Int) (kids : List Int) (nd : L6.Nd) (a1 : Option Addr) (c1 : Nat) (ai : Option Addr) (ci : Nat) (ak : Option Addr) (ck : Nat) (w : World) (H : HeldIn B W w o p d s c F pv) (hc : ClAt B W ⟨3, n, kids, nd⟩ a1 ai ak) (ho : ∀ i, i < 16 → s.out i ≤ 100000) (hl : s.h.al.length = 14) :
    Calls Tryz.prog 18 #[.pointer (some ⟨o, 0, none⟩), .agg #[.int .i64 3, .int .i64 n, .slice a1 kids.length c1, .bool nd.leaf, .slice ai nd.its.length ci, .slice ak nd.kds.length ck]] w fun e w' => e = .returned (.tuple #[]) ∧ ∃ F' pv', HeldIn B W w' o p d (chg s ⟨3, n, kids, nd⟩) (c + 2) F' pv' := by
  have hb0 := below_alloc w (.cells #[.int .i64 3, .int .i64 n, .slice a1 kids.length c1, .bool nd.leaf, .slice ai nd.its.length ci, .slice ak nd.kds.length ck] 45)
  have H1 := H.grow hb0
  have x0 := H1.held.ptr
  have q1 : (w.alloc (.cells #[.int .i64 3, .int .i64 n, .slice a1 kids.length c1, .bool nd.leaf, .slice ai nd.its.length ci, .slice ak nd.kds.length ck] 45)).cell? ⟨w.heap.size, 1, none⟩ = some (.int .i64 n) := by simp
  have hnb : w.heap.size ∉ F := fun hx => by have := H.heap.lt _ hx; omega
  have hne : w.heap.size ≠ o := by have := H.held.lt; omega
  have HNB := hide hnb
  have HNE := hide hne
  have HI := hide hc.n64.1
  have HH := hide H1
  clear hb0 H H1 hc hnb hne
  have HO := hide ho
  have HL := hide hl
  clear ho hl
  go_enter Tryz.func18, Tryz.ntmps18
  go_wp2_with fail
  obtain ⟨b0, hb0⟩ : ∃ x, x = w.heap.size := ⟨_, rfl⟩
  rw [← hb0] at q1 HNB HNE ⊢
  clear hb0
  generalize w.alloc (.cells #[.int .i64 3, .int .i64 n, .slice a1 kids.length c1, .bool nd.leaf, .slice ai nd.its.length ci, .slice ak nd.kds.length ck] 45) = w1 at *
  have HH' : Hid (HeldIn B W w1.drew o p d s c F pv) := (unhide HH).grow (below_drew w1)
  clear HH
  have HH := HH'
  clear HH'
  by_cases hE : L5.holdE 2 s.h.al n = 0
  · have HE := hide hE
    have hcn : 0 < cntL s.h.al n := by
      unfold L5.holdE at hE
      split at hE
      · exact absurd hE (by decide)
      · rename_i h1; exact Nat.pos_of_ne_zero h1
    have hin := cnt_in hcn
    unfold L5.In at hin
    rw [unhide HL] at hin
    obtain ⟨i, hi, hi16⟩ : ∃ i : Nat, n = (i : Int) ∧ i < 16 := ⟨n.toNat, by omega, by omega⟩
    have hs : chg s ⟨3, n, kids, nd⟩ = { s with h := holdR s.h n, out := setN s.out i (s.out i + 1) } := by
      have e : n.toNat = i := by omega
      unfold chg
      rw [if_neg (by simp), if_pos rfl, if_pos hE, e]
    have HS := hide hs
    have HII := hide hi
    clear hE hcn hin hs hi
    go_region_held3 (fun w' => w'.cell? ⟨o, 0, none⟩ = some (.pointer (some ⟨p, 0, none⟩)) ∧ w'.cell? ⟨b0, 1, none⟩ = some (.int .i64 n))
      (first | assumption | exact ⟨x0, q1⟩ | exact ⟨y0, r1⟩)
      (first
        | (go_at_call 32; go_split_ands; refine (hhold_any n (unhide HI) _ (unhide HH).heap).mono ?_; rintro e w2 ⟨rfl, ht⟩; rw [unhide HE]; obtain ⟨F', k⟩ := (unhide HH).turn ht (fun i _ h => cnt_hold_pos _ _ _ h); have y0 := k.held.ptr; obtain ⟨_, _, k2, _⟩ := ht; have r1 := cell_moves k2 (show w1.drew.cell? _ = _ from q1) (unhide HNB); have HK := hide k; clear k k2))
    have hi := unhide HII
    subst hi
    have z := (unhide HK).held.cnt i hi16
    have fz := (unhide HK).held.free (1 + i)
    have hb16 : (i : Int) < 16 := by omega
    have hob := unhide HO i hi16
    have z' : w2.cell? ⟨o, 1 + i, none⟩ = some (.int .i64 (s.out i : Int)) := z
    clear x0 q1 y0 z
    go_wp2_with fail
    go_region
    go_wp2
    go_end0
    rw [unhide HS]
    have hset := ((unhide HK).setOut hi16 (s.out i + 1)).grow (below_drew _)
    have e : ((s.out i + 1 : Nat) : Int) = (s.out i : Int) + 1 := by omega
    rw [e] at hset
    exact ⟨rfl, F', pv, hset.mono (Nat.le_add_right c 2)⟩
  · have hs : chg s ⟨3, n, kids, nd⟩ = { s with h := holdR s.h n } := by
      unfold chg
      rw [if_neg (by simp), if_pos rfl, if_neg hE]
    obtain ⟨E, hEE⟩ : ∃ x, x = L5.holdE 2 s.h.al n := ⟨_, rfl⟩
    have hE1 : (E == 0) = false := beq_eq_false_iff_ne.2 (by rw [hEE]; exact hE)
    have HE := hide hEE.symm
    have HS := hide hs
    clear hE hEE hs
    go_region_held3 (fun w' => w'.cell? ⟨o, 0, none⟩ = some (.pointer (some ⟨p, 0, none⟩)) ∧ w'.cell? ⟨b0, 1, none⟩ = some (.int .i64 n))
      (first | assumption | exact ⟨x0, q1⟩ | exact ⟨y0, r1⟩)
      (first
        | (go_at_call 32; go_split_ands; refine (hhold_any n (unhide HI) _ (unhide HH).heap).mono ?_; rintro e w2 ⟨rfl, ht⟩; rw [unhide HE]; obtain ⟨F', k⟩ := (unhide HH).turn ht (fun i _ h => cnt_hold_pos _ _ _ h); have y0 := k.held.ptr; obtain ⟨_, _, k2, _⟩ := ht; have r1 := cell_moves k2 (show w1.drew.cell? _ = _ from q1) (unhide HNB); have HK := hide k; clear k k2))
    clear x0 q1 y0 r1
    go_wp2
    go_end0
    rw [unhide HS]
    exact ⟨rfl, F', pv, (unhide HK).mono (Nat.le_add_right c 2)⟩
end Go.Proofs.YteokbefcdpjkaaaGreatDoor

/- What a change does. -/
namespace Go.Proofs.YteokbefcdpjkaaaGreatDoor
open Go.ChangeShapes Go.WideShapes Go.ChangeAt Go.RowKit
variable {B : Nat} {W : World} {o p d : Nat} {s : Hs} {c : Nat} {F : List Nat} {pv : Nat → V3}
open L6 (takeY takeN)

set_option maxHeartbeats 4000000 in
set_option maxRecDepth 20000 in
theorem chg4 (n : Int) (kids : List Int) (nd : L6.Nd) (a1 : Option Addr) (c1 : Nat) (ai : Option Addr) (ci : Nat) (ak : Option Addr) (ck : Nat) (w : World) (H : HeldIn B W w o p d s c F pv) (hc : ClAt B W ⟨4, n, kids, nd⟩ a1 ai ak) (ho : ∀ i, i < 16 → s.out i ≤ s.h.cnt (i : Int) ∧ s.out i ≤ 100000) (hnr : s.h.near) :
    Calls Tryz.prog 18 #[.pointer (some ⟨o, 0, none⟩), .agg #[.int .i64 4, .int .i64 n, .slice a1 kids.length c1, .bool nd.leaf, .slice ai nd.its.length ci, .slice ak nd.kds.length ck]] w fun e w' => e = .returned (.tuple #[]) ∧ ∃ F' pv', HeldIn B W w' o p d (chg s ⟨4, n, kids, nd⟩) (c + 2) F' pv' := by
  have hb0 := below_alloc w (.cells #[.int .i64 4, .int .i64 n, .slice a1 kids.length c1, .bool nd.leaf, .slice ai nd.its.length ci, .slice ak nd.kds.length ck] 45)
  have H1 := H.grow hb0
  have x0 := H1.held.ptr
  have q1 : (w.alloc (.cells #[.int .i64 4, .int .i64 n, .slice a1 kids.length c1, .bool nd.leaf, .slice ai nd.its.length ci, .slice ak nd.kds.length ck] 45)).cell? ⟨w.heap.size, 1, none⟩ = some (.int .i64 n) := by simp
  have hnb : w.heap.size ∉ F := fun hx => by have := H.heap.lt _ hx; omega
  have hne : w.heap.size ≠ o := by have := H.held.lt; omega
  have HNB := hide hnb
  have HNE := hide hne
  have HI := hide hc.n64.1
  have HH := hide H1
  clear hb0 H H1 hc hnb hne
  have HO := hide ho
  have HNR := hide hnr
  clear ho hnr
  go_enter Tryz.func18, Tryz.ntmps18
  go_wp2_with fail
  obtain ⟨b0, hb0⟩ : ∃ x, x = w.heap.size := ⟨_, rfl⟩
  rw [← hb0] at q1 HNB HNE ⊢
  clear hb0
  generalize w.alloc (.cells #[.int .i64 4, .int .i64 n, .slice a1 kids.length c1, .bool nd.leaf, .slice ai nd.its.length ci, .slice ak nd.kds.length ck] 45) = w1 at *
  by_cases h0 : n < 0
  · have hd : decide ((0 : Int) ≤ n) = false := decide_eq_false (by omega)
    have hs : chg s ⟨4, n, kids, nd⟩ = s := by
      unfold chg
      rw [if_neg (by simp), if_neg (by simp), if_pos rfl, if_neg (by simp; omega)]
    have HS := hide hs
    clear hs
    clear h0
    go_quiet (fail)
    rename_i nq
    have HK : Hid (HeldIn B W (w1.drewN nq) o p d s c F pv) := (unhide HH).grow ⟨rfl, rfl, rfl, Nat.le_refl _, fun _ _ => rfl⟩
    clear q1 x0
    go_wp2
    go_end0
    rw [unhide HS]
    exact ⟨rfl, F, pv, (unhide HK).mono (Nat.le_add_right c 2)⟩
  by_cases h16 : 16 ≤ n
  · have hd1 : (0 : Int) ≤ n := by omega
    have hd2 : decide (n < (16 : Int)) = false := decide_eq_false (by omega)
    have hs : chg s ⟨4, n, kids, nd⟩ = s := by
      unfold chg
      rw [if_neg (by simp), if_neg (by simp), if_pos rfl, if_neg (by simp; omega)]
    have HS := hide hs
    clear hs
    clear h0 h16
    go_quiet (fail)
    rename_i nq
    have HK : Hid (HeldIn B W (w1.drewN nq) o p d s c F pv) := (unhide HH).grow ⟨rfl, rfl, rfl, Nat.le_refl _, fun _ _ => rfl⟩
    clear q1 x0
    go_wp2
    go_end0
    rw [unhide HS]
    exact ⟨rfl, F, pv, (unhide HK).mono (Nat.le_add_right c 2)⟩
  obtain ⟨i, hi, hi16⟩ : ∃ i : Nat, n = (i : Int) ∧ i < 16 := ⟨n.toNat, by omega, by omega⟩
  subst hi
  have z := (unhide HH).held.cnt i hi16
  have hd1 : (0 : Int) ≤ (i : Int) := by omega
  have hd2 : (i : Int) < 16 := by omega
  by_cases hz : s.out i = 0
  · have hs : chg s ⟨4, (i : Int), kids, nd⟩ = s := by
      unfold chg
      rw [if_neg (by simp), if_neg (by simp), if_pos rfl, if_neg (by simp; omega)]
    have HS := hide hs
    rw [hz] at z
    clear hs h0 h16 hz
    go_quiet (fail)
    rename_i nq
    have HK : Hid (HeldIn B W (w1.drewN nq) o p d s c F pv) := (unhide HH).grow ⟨rfl, rfl, rfl, Nat.le_refl _, fun _ _ => rfl⟩
    clear q1 x0 z
    go_wp2
    go_end0
    rw [unhide HS]
    exact ⟨rfl, F, pv, (unhide HK).mono (Nat.le_add_right c 2)⟩
  · obtain ⟨ho1, ho2⟩ := unhide HO i hi16
    have hE : L5.dropE 2 s.h.al (i : Int) = 0 := dropE_zero _ _ (by have : s.h.cnt (i : Int) = cntL s.h.al (i : Int) := rfl; omega)
    have hs : chg s ⟨4, (i : Int), kids, nd⟩ = { s with h := dropR s.h (i : Int), out := setN s.out i (s.out i - 1) } := by
      unfold chg
      rw [if_neg (by simp), if_neg (by simp), if_pos rfl, if_pos (by simp; omega), if_pos hE]
      rfl
    have HS := hide hs
    have HE := hide hE
    have HH' : Hid (HeldIn B W w1.drew o p d s c F pv) := (unhide HH).grow (below_drew w1)
    obtain ⟨O, hO⟩ : ∃ x : Int, x = (s.out i : Int) := ⟨_, rfl⟩
    have hO0 : 0 < O := by omega
    have HO2 : Hid (O ≤ 100000) := by show _ ≤ _; omega
    rw [← hO] at z
    have HOE : Hid (some (Value.int .i64 (s.out i : Int)) = some (Value.int .i64 O)) := by rw [hO]; exact rfl
    have HOO := hide hO
    clear hs hE HH h0 h16 hz ho1 ho2 hO
    have HH := HH'
    clear HH'
    go_region_held3 (fun w' => w'.cell? ⟨o, 0, none⟩ = some (.pointer (some ⟨p, 0, none⟩)) ∧ w'.cell? ⟨b0, 1, none⟩ = some (.int .i64 (i : Int)) ∧ w'.cell? ⟨o, 1 + i, none⟩ = some (.int .i64 O))
      (first | assumption | exact ⟨x0, q1, z⟩ | exact ⟨y0, r1, z2⟩)
      (first
        | (go_at_call 28; go_split_ands; refine (hdrop_any (i : Int) (unhide HI) _ (unhide HH).heap (unhide HNR)).mono ?_; rintro e w2 ⟨rfl, ht⟩; rw [unhide HE]; obtain ⟨F', k⟩ := (unhide HH).turn ht (fun j _ h => Nat.lt_of_lt_of_le h (cnt_dropH _ _ _ _)); have y0 := k.held.ptr; have z2 := (k.held.cnt i hi16).trans (unhide HOE); obtain ⟨_, _, k2, _⟩ := ht; have r1 := cell_moves k2 (show w1.drew.cell? _ = _ from q1) (unhide HNB); have HK := hide k; clear k k2))
    have z' : w2.cell? ⟨o, 1 + i, none⟩ = some (.int .i64 O) := z2
    have fz := (unhide HK).held.free (1 + i)
    have hob := unhide HO2
    clear x0 q1 y0 z z2
    go_wp2_with fail
    go_region
    go_wp2
    go_end0
    rw [unhide HS]
    have hset := ((unhide HK).setOut hi16 (s.out i - 1)).grow (below_drew _)
    have e : ((s.out i - 1 : Nat) : Int) = O - 1 := by have := unhide HOO; omega
    rw [e] at hset
    exact ⟨rfl, F', pv, hset.mono (Nat.le_add_right c 2)⟩
end Go.Proofs.YteokbefcdpjkaaaGreatDoor

/- Where Put has taken a place, and what was put isn't noted yet. -/
namespace Go.Proofs.YteokbefcdpjkaaaGreatDoor
open Go.ChangeShapes Go.WideShapes Go.ChangeAt Go.RowKit

structure HeldBut (q : Nat) (B : Nat) (W w : World) (o p d : Nat) (s : Hs) (c : Nat) (F : List Nat) (pv : Nat → V3) : Prop where
  heap : IsHeap w p d s.h c F
  held : HeldAt w o p s.out pv
  bel : Below B W w
  hF : ∀ x ∈ F, B ≤ x
  ho : B ≤ o
  no : o ∉ F
  kept : ∀ i : Nat, i < 16 → i ≠ q → 0 < s.h.cnt (i : Int) → Kept F o w (pv i) (s.put i)
  fr : Fr W w
variable {q B : Nat} {W w w' : World} {o p d : Nat} {s : Hs} {c c' : Nat} {F : List Nat} {pv : Nat → V3}
theorem HeldBut.size (h : HeldBut q B W w o p d s c F pv) : B ≤ w.heap.size := Nat.le_trans h.ho (Nat.le_of_lt h.held.lt)
theorem HeldIn.turnBut {h' : Hp} (h : HeldIn B W w o p d s c F pv) (k : HTurned w w' p d h' c' F) (hc : ∀ i : Nat, i < 16 → i ≠ q → 0 < h'.cnt (i : Int) → 0 < s.h.cnt (i : Int)) : ∃ F', HeldBut q B W w' o p d { s with h := h' } c' F' pv := by
  have hb := k.below h.bel h.hF h.size
  obtain ⟨F', k1, k2, k3⟩ := k
  refine ⟨F', k1, h.held.keep k2 h.no, hb, fun x hx => ?_, h.ho, fun hx => ?_, fun i hi hq hp => (h.kept i hi (hc i hi hq hp)).next k2 k3, h.fr.moves k2 h.heap.no64⟩
  · rcases k3 x hx with h1 | h1
    · exact h.hF x h1
    · exact Nat.le_trans h.size h1
  · rcases k3 o hx with h1 | h1
    · exact h.no h1
    · have := h.held.lt; omega
theorem HeldBut.grow (h : HeldBut q B W w o p d s c F pv) (hb : Below w.heap.size w w') : HeldBut q B W w' o p d s c F pv :=
  ⟨h.heap.grow hb, h.held.grow hb, h.bel.trans (hb.mono h.size), h.hF, h.ho, h.no, fun i hi hq hp => (h.kept i hi hq hp).next (L5.Moves.of_below _ hb) (fun _ hx => .inl hx), h.fr.grow hb⟩
theorem HeldBut.set (h : HeldBut q B W w o p d s c F pv) (j : Nat) (u : Value) : IsHeap (w.setCell ⟨o, j, none⟩ u) p d s.h c F ∧ Below B W (w.setCell ⟨o, j, none⟩ u) ∧ (∀ i : Nat, i < 16 → i ≠ q → 0 < s.h.cnt (i : Int) → Kept F o (w.setCell ⟨o, j, none⟩ u) (pv i) (s.put i)) ∧ Fr W (w.setCell ⟨o, j, none⟩ u) := by
  obtain ⟨cs, hk⟩ := h.held.kind
  have h0 : 0 < o := by
    have ht := h.heap.tab
    rcases Nat.eq_zero_or_pos o with e | e
    · have h1 := ht 0 (by omega)
      have h2 := h.held.ptr
      rw [e] at h2
      rw [h1] at h2
      cases h2
    · exact e
  exact ⟨h.heap.set h.no (fun cs' e => by rw [hk] at e; injection e with e; injection e with _ e; exact absurd e (by decide)) h0 j u, h.bel.setCell h.ho u, fun i hi hq hp => (h.kept i hi hq hp).setO j u, h.fr.setO h.held.kind j u⟩
theorem HeldBut.setOut (h : HeldBut q B W w o p d s c F pv) {i : Nat} (hi : i < 16) (v : Nat) : HeldBut q B W (w.setCell ⟨o, 1 + i, none⟩ (.int .i64 (v : Int))) o p d { s with out := setN s.out i v } c F pv := by
  obtain ⟨k1, k2, k3, k4⟩ := h.set (1 + i) (.int .i64 (v : Int))
  exact ⟨k1, h.held.setOut hi v, k2, h.hF, h.ho, h.no, k3, k4⟩
/-- what was put is noted -/
theorem HeldBut.note (h : HeldBut q B W w o p d s c F pv) (hq : q < 16) {n : L6.Nd} {ai ak : Option Addr} {ci ck : Nat} (hh : L6.Has w n ai ak) (h1 : n.its = [] ∨ Out F o w ai) (h2 : n.kds = [] ∨ Out F o w ak) :
    HeldIn B W (((w.setCell ⟨o, 17 + q * 3, none⟩ (.bool n.leaf)).setCell ⟨o, 17 + q * 3 + 1, none⟩ (.slice ai n.its.length ci)).setCell ⟨o, 17 + q * 3 + 2, none⟩ (.slice ak n.kds.length ck)) o p d { s with put := setN s.put q n } c F (setN pv q (.bool n.leaf, .slice ai n.its.length ci, .slice ak n.kds.length ck)) := by
  have hk : Kept F o w (.bool n.leaf, .slice ai n.its.length ci, .slice ak n.kds.length ck) n := ⟨ai, ci, ak, ck, rfl, hh, h1, h2⟩
  have a0 := h.held.setPut hq (.bool n.leaf, .slice ai n.its.length ci, .slice ak n.kds.length ck)
  obtain ⟨k1, k2, k3, k4⟩ := h.set (17 + q * 3) (.bool n.leaf)
  have hB1 : HeldAt (w.setCell ⟨o, 17 + q * 3, none⟩ (.bool n.leaf)) o p s.out (setN pv q (.bool n.leaf, (pv q).2.1, (pv q).2.2)) := by
    refine ⟨cell_other h.held.ptr (by omega), fun j hj => cell_other (h.held.cnt j hj) (by omega), fun j hj => ?_, fun j => frozen_set.trans (h.held.free j), kind_set h.held.kind _ _⟩
    obtain ⟨n0, n1, n2⟩ := h.held.nod j hj
    unfold setN
    by_cases e : j = q
    · subst e
      rw [if_pos rfl]
      exact ⟨cell_this n0, cell_other n1 (by omega), cell_other n2 (by omega)⟩
    · rw [if_neg e]
      exact ⟨cell_other n0 (by omega), cell_other n1 (by omega), cell_other n2 (by omega)⟩
  have hb1 : HeldBut q B W (w.setCell ⟨o, 17 + q * 3, none⟩ (.bool n.leaf)) o p d s c F (setN pv q (.bool n.leaf, (pv q).2.1, (pv q).2.2)) :=
    ⟨k1, hB1, k2, h.hF, h.ho, h.no, fun i hi hne hp => by have := k3 i hi hne hp; unfold setN; rw [if_neg hne]; exact this, k4⟩
  obtain ⟨m1, m2, m3, m4⟩ := hb1.set (17 + q * 3 + 1) (.slice ai n.its.length ci)
  have hB2 : HeldAt ((w.setCell ⟨o, 17 + q * 3, none⟩ (.bool n.leaf)).setCell ⟨o, 17 + q * 3 + 1, none⟩ (.slice ai n.its.length ci)) o p s.out (setN pv q (.bool n.leaf, .slice ai n.its.length ci, (pv q).2.2)) := by
    refine ⟨cell_other hB1.ptr (by omega), fun j hj => cell_other (hB1.cnt j hj) (by omega), fun j hj => ?_, fun j => frozen_set.trans (hB1.free j), kind_set hB1.kind _ _⟩
    obtain ⟨n0, n1, n2⟩ := hB1.nod j hj
    unfold setN at *
    by_cases e : j = q
    · subst e
      rw [if_pos rfl] at *
      exact ⟨cell_other n0 (by omega), cell_this n1, cell_other n2 (by omega)⟩
    · rw [if_neg e] at *
      exact ⟨cell_other n0 (by omega), cell_other n1 (by omega), cell_other n2 (by omega)⟩
  have hb2 : HeldBut q B W ((w.setCell ⟨o, 17 + q * 3, none⟩ (.bool n.leaf)).setCell ⟨o, 17 + q * 3 + 1, none⟩ (.slice ai n.its.length ci)) o p d s c F (setN pv q (.bool n.leaf, .slice ai n.its.length ci, (pv q).2.2)) :=
    ⟨m1, hB2, m2, h.hF, h.ho, h.no, fun i hi hne hp => by have := m3 i hi hne hp; unfold setN at *; rw [if_neg hne] at *; exact this, m4⟩
  obtain ⟨l1, l2, l3, l4⟩ := hb2.set (17 + q * 3 + 2) (.slice ak n.kds.length ck)
  refine ⟨l1, a0, l2, h.hF, h.ho, h.no, fun i hi hp => ?_, l4⟩
  by_cases e : i = q
  · subst e
    have := ((hk.setO (17 + i * 3) (.bool n.leaf)).setO (17 + i * 3 + 1) (.slice ai n.its.length ci)).setO (17 + i * 3 + 2) (.slice ak n.kds.length ck)
    simpa [setN] using this
  · have := l3 i hi e hp
    unfold setN at *
    dsimp only
    rw [if_neg e] at this
    rw [if_neg e, if_neg e]
    exact this
end Go.Proofs.YteokbefcdpjkaaaGreatDoor

/- What a change does. -/
namespace Go.Proofs.YteokbefcdpjkaaaGreatDoor
open Go.ChangeShapes Go.WideShapes Go.ChangeAt Go.RowKit
variable {B : Nat} {W : World} {o p d : Nat} {s : Hs} {c : Nat} {F : List Nat} {pv : Nat → V3}
open L6 (takeY takeN)

/-- a call's cells in their box -/
def Six (w : World) (b0 : Nat) (K n : Int) (a1 : Option Addr) (l1 c1 : Nat) (lf : Bool) (ai : Option Addr) (il ci : Nat) (ak : Option Addr) (kl ck : Nat) : Prop := w.cell? ⟨b0, 0, none⟩ = some (.int .i64 K) ∧ w.cell? ⟨b0, 1, none⟩ = some (.int .i64 n) ∧ w.cell? ⟨b0, 2, none⟩ = some (.slice a1 l1 c1) ∧ w.cell? ⟨b0, 3, none⟩ = some (.bool lf) ∧ w.cell? ⟨b0, 4, none⟩ = some (.slice ai il ci) ∧ w.cell? ⟨b0, 5, none⟩ = some (.slice ak kl ck)
theorem six_new (w : World) (K n : Int) (a1 : Option Addr) (l1 c1 : Nat) (lf : Bool) (ai : Option Addr) (il ci : Nat) (ak : Option Addr) (kl ck : Nat) : Six (w.alloc (.cells #[.int .i64 K, .int .i64 n, .slice a1 l1 c1, .bool lf, .slice ai il ci, .slice ak kl ck] 45)) w.heap.size K n a1 l1 c1 lf ai il ci ak kl ck := by
  refine ⟨?_, ?_, ?_, ?_, ?_, ?_⟩ <;> simp
theorem six_below {w w' : World} {b0 : Nat} {K n : Int} {a1 : Option Addr} {l1 c1 : Nat} {lf : Bool} {ai : Option Addr} {il ci : Nat} {ak : Option Addr} {kl ck : Nat} (h : Six w b0 K n a1 l1 c1 lf ai il ci ak kl ck) (hb : Below w.heap.size w w') : Six w' b0 K n a1 l1 c1 lf ai il ci ak kl ck := by
  obtain ⟨h0, h1, h2, h3, h4, h5⟩ := h
  exact ⟨L6.cell_keep h0 hb, L6.cell_keep h1 hb, L6.cell_keep h2 hb, L6.cell_keep h3 hb, L6.cell_keep h4 hb, L6.cell_keep h5 hb⟩
theorem six_moves {w w' : World} {fq : List Nat} {b0 : Nat} {K n : Int} {a1 : Option Addr} {l1 c1 : Nat} {lf : Bool} {ai : Option Addr} {il ci : Nat} {ak : Option Addr} {kl ck : Nat} (h : Six w b0 K n a1 l1 c1 lf ai il ci ak kl ck) (hm : Moves fq w w') (hn : b0 ∉ fq) : Six w' b0 K n a1 l1 c1 lf ai il ci ak kl ck := by
  obtain ⟨h0, h1, h2, h3, h4, h5⟩ := h
  exact ⟨cell_moves hm h0 hn, cell_moves hm h1 hn, cell_moves hm h2 hn, cell_moves hm h3 hn, cell_moves hm h4 hn, cell_moves hm h5 hn⟩
theorem six_set {w : World} {o b0 : Nat} {K n : Int} {a1 : Option Addr} {l1 c1 : Nat} {lf : Bool} {ai : Option Addr} {il ci : Nat} {ak : Option Addr} {kl ck : Nat} (h : Six w b0 K n a1 l1 c1 lf ai il ci ak kl ck) (hn : b0 ≠ o) (j : Nat) (u : Value) : Six (w.setCell ⟨o, j, none⟩ u) b0 K n a1 l1 c1 lf ai il ci ak kl ck :=
  six_moves h (mv53 (L3.Moves.set (fp := [o]) w o j u (by simp))) (by simp; exact hn)
theorem HTurned.moves {w w' : World} {p d : Nat} {h : Hp} {c : Nat} {F : List Nat} (k : HTurned w w' p d h c F) : Moves F w w' := by
  obtain ⟨_, _, h2, _⟩ := k
  exact h2
theorem nodeC_few (c : Cl) (hk : c.kids.length ≤ 60) (hf : L6.Few c.nd) : (nodeC c).its.length ≤ 1100 ∧ (nodeC c).kds.length ≤ 1100 := by
  unfold nodeC
  split
  · exact ⟨by show 1 ≤ 1100; omega, by show 0 ≤ 1100; omega⟩
  · split
    · refine ⟨by show 0 ≤ 1100; omega, ?_⟩
      show (innerK c.kids).length ≤ 1100
      rw [innerK_len]
      omega
    · exact ⟨by have := hf.1; omega, by have := hf.2.1; omega⟩
set_option maxHeartbeats 4000000 in
set_option maxRecDepth 20000 in
theorem chgP (n : Int) (kids : List Int) (nd : L6.Nd) (a1 : Option Addr) (c1 : Nat) (ai : Option Addr) (ci : Nat) (ak : Option Addr) (ck : Nat) (K : Int) (w : World) (H : HeldIn B W w o p d s c F pv) (hc : ClAt B W ⟨K, n, kids, nd⟩ a1 ai ak) (hl : s.h.al.length = 14) (hbr : s.h.bare) (hcc : c ≤ 999990) (hkl : kids.length ≤ 60) (hfw : L6.Few nd) (k2 : K ≠ 2) (k6 : K ≠ 6) (k3 : K ≠ 3) (k4 : K ≠ 4) (k5 : K ≠ 5) :
    Calls Tryz.prog 18 #[.pointer (some ⟨o, 0, none⟩), .agg #[.int .i64 K, .int .i64 n, .slice a1 kids.length c1, .bool nd.leaf, .slice ai nd.its.length ci, .slice ak nd.kds.length ck]] w fun e w' => e = .returned (.tuple #[]) ∧ ∃ F' pv', HeldIn B W w' o p d (chg s ⟨K, n, kids, nd⟩) (c + 2) F' pv' := by
  have hb0 := below_alloc w (.cells #[.int .i64 K, .int .i64 n, .slice a1 kids.length c1, .bool nd.leaf, .slice ai nd.its.length ci, .slice ak nd.kds.length ck] 45)
  have H1 := H.grow hb0
  have x0 := H1.held.ptr
  have hq := six_new w K n a1 kids.length c1 nd.leaf ai nd.its.length ci ak nd.kds.length ck
  have hnb : w.heap.size ∉ F := fun hx => by have := H.heap.lt _ hx; omega
  have hne : w.heap.size ≠ o := by have := H.held.lt; omega
  have HNB := hide hnb
  have HNE := hide hne
  have HQ := hide hq
  have q0 := hq.1
  have g2 : (K == 2) = false := beq_eq_false_iff_ne.2 k2
  have g6 : (K == 6) = false := beq_eq_false_iff_ne.2 k6
  have g3 : (K == 3) = false := beq_eq_false_iff_ne.2 k3
  have g4 : (K == 4) = false := beq_eq_false_iff_ne.2 k4
  have g5 : (K == 5) = false := beq_eq_false_iff_ne.2 k5
  have HCW := hide hc
  have HH := hide H1
  have HL := hide hl
  have HBR := hide hbr
  have HCC := hide hcc
  have HKL : Hid (kids.length ≤ 1000) := by show _ ≤ _; omega
  have HLE : Hid ((nodeC ⟨K, n, kids, nd⟩).its.length ≤ 1100 ∧ (nodeC ⟨K, n, kids, nd⟩).kds.length ≤ 1100) := nodeC_few ⟨K, n, kids, nd⟩ hkl hfw
  have hs : chg s ⟨K, n, kids, nd⟩ = if (putR s.h (nodeC ⟨K, n, kids, nd⟩)).2.1 = 0 then { h := (putR s.h (nodeC ⟨K, n, kids, nd⟩)).2.2, out := setN s.out (putR s.h (nodeC ⟨K, n, kids, nd⟩)).1.toNat 1, put := setN s.put (putR s.h (nodeC ⟨K, n, kids, nd⟩)).1.toNat (nodeC ⟨K, n, kids, nd⟩) } else { s with h := (putR s.h (nodeC ⟨K, n, kids, nd⟩)).2.2 } := by
    unfold chg
    rw [if_neg (by simp; exact ⟨k2, k6⟩), if_neg k3, if_neg k4, if_neg k5]
  have HS := hide hs
  clear hb0 H H1 hc hnb hne hq k2 k6 k3 k4 k5 hl hbr hcc hkl hfw hs
  go_enter Tryz.func18, Tryz.ntmps18
  go_wp2_with fail
  obtain ⟨b0, hb0⟩ : ∃ x, x = w.heap.size := ⟨_, rfl⟩
  rw [← hb0] at HQ HNB HNE q0 ⊢
  clear hb0 g2 g6 g3 g4 g5 q0
  generalize w.alloc (.cells #[.int .i64 K, .int .i64 n, .slice a1 kids.length c1, .bool nd.leaf, .slice ai nd.its.length ci, .slice ak nd.kds.length ck] 45) = w1 at *
  have HH' : Hid (HeldIn B W w1.drew o p d s c F pv) := (unhide HH).grow (below_drew w1)
  have HC : Hid (ClAt B w1.drew ⟨K, n, kids, nd⟩ a1 ai ak) := (unhide HCW).base (unhide HH').bel
  clear HH
  have HH := HH'
  clear HH'
  by_cases hE : (putR s.h (nodeC ⟨K, n, kids, nd⟩)).2.1 = 0
  · obtain ⟨i, hi, _, _, hput⟩ := put_done hE
    have hi16 : 2 + i < 16 := by
      have := (take_at hi 0).1
      unfold L5.In at this
      rw [unhide HL] at this
      omega
    have hs2 := unhide HS
    rw [if_pos hE] at hs2
    have e1 : (putR s.h (nodeC ⟨K, n, kids, nd⟩)).1 = (2 : Int) + (i : Int) := by rw [hput]
    have e2 : ((2 : Int) + (i : Int)).toNat = 2 + i := by omega
    rw [e1, e2] at hs2
    have HS2 := hide hs2
    have HRES : Hid (putR s.h (nodeC ⟨K, n, kids, nd⟩) = ((2 : Int) + (i : Int), 0, (putR s.h (nodeC ⟨K, n, kids, nd⟩)).2.2)) := Prod.ext e1 (Prod.ext hE rfl)
    have HCP : Hid (∀ j : Nat, j < 16 → j ≠ 2 + i → 0 < (putR s.h (nodeC ⟨K, n, kids, nd⟩)).2.2.cnt (j : Int) → 0 < s.h.cnt (j : Int)) := fun j hj hne hp => by
      rcases cnt_put_pos (j : Int) hp with h1 | ⟨_, h1⟩
      · exact h1
      · rw [e1] at h1; omega
    clear hE hput hs2 e1 e2 hi
    go_region_held3 (fun w' => w'.cell? ⟨o, 0, none⟩ = some (.pointer (some ⟨p, 0, none⟩)) ∧ w'.cell? ⟨b0, 0, none⟩ = some (.int .i64 K) ∧ w'.cell? ⟨b0, 1, none⟩ = some (.int .i64 n) ∧ w'.cell? ⟨b0, 2, none⟩ = some (.slice a1 kids.length c1) ∧ w'.cell? ⟨b0, 3, none⟩ = some (.bool nd.leaf) ∧ w'.cell? ⟨b0, 4, none⟩ = some (.slice ai nd.its.length ci) ∧ w'.cell? ⟨b0, 5, none⟩ = some (.slice ak nd.kds.length ck))
    (first | assumption | exact ⟨x0, unhide HQ⟩ | exact ⟨y0, unhide HQ2⟩ | exact ⟨z0, unhide HQ3⟩)
    (first
      | (go_at_call 46; go_split_ands; refine (node_any B ⟨K, n, kids, nd⟩ a1 c1 ai ci ak ck _ (unhide HC) (unhide HKL)).mono ?_; rintro e w2 ⟨bi, bk, di, dk, rfl, hh, hb, si, sk⟩; have k2 := (unhide HH).grow hb; have y0 := k2.held.ptr; have HQ2 := hide (six_below (w := w1.drew) (unhide HQ) hb); have HK2 := hide k2; have HN2 := hide hh; clear hh hb si sk k2)
      | (go_at_call 30; go_split_ands; refine (hput_any (nodeC ⟨K, n, kids, nd⟩) bi bk di dk _ (unhide HK2).heap (unhide HN2) (unhide HLE).1 (unhide HLE).2 (unhide HBR) (unhide HCC)).mono ?_; rintro e w3 ⟨rfl, ht⟩; rw [unhide HRES]; dsimp only; have z0 := ((unhide HK2).held.keep ht.moves (unhide HK2).no).ptr; have HQ3 := hide (six_moves (unhide HQ2) ht.moves (unhide HNB)); have HT := hide ht; clear ht))
    obtain ⟨F', hK3⟩ := (unhide HK2).turnBut (q := 2 + i) (unhide HT) (unhide HCP)
    have HK3 := hide hK3
    have z1 := hK3.held.cnt (2 + i) hi16
    have f1 := hK3.held.free (1 + (2 + i))
    have hb16 : (2 : Int) + (i : Int) < 16 := by omega
    clear hK3 x0 y0 z0
    go_wp2_with fail
    have HK4 : Hid (HeldBut (2 + i) B W (w3.setCell ⟨o, 1 + (2 + i), none⟩ (.int .i64 1)).drew o p d { s with h := (putR s.h (nodeC ⟨K, n, kids, nd⟩)).2.2, out := setN s.out (2 + i) 1 } (c + 2) F' pv) := ((unhide HK3).setOut hi16 1).grow (below_drew _)
    have HQ4 : Hid (Six (w3.setCell ⟨o, 1 + (2 + i), none⟩ (.int .i64 1)).drew b0 K n a1 kids.length c1 nd.leaf ai nd.its.length ci ak nd.kds.length ck) := six_below (six_set (unhide HQ3) (unhide HNE) (1 + (2 + i)) (.int .i64 1)) (below_drew _)
    have HC4 : Hid (ClAt B (w3.setCell ⟨o, 1 + (2 + i), none⟩ (.int .i64 1)).drew ⟨K, n, kids, nd⟩ a1 ai ak) := (unhide HCW).base (unhide HK4).bel
    have HNODE : Hid (∀ w', ClAt B w' ⟨K, n, kids, nd⟩ a1 ai ak → Calls Tryz.prog 46 #[.agg #[.int .i64 K, .int .i64 n, .slice a1 kids.length c1, .bool nd.leaf, .slice ai nd.its.length ci, .slice ak nd.kds.length ck]] w' fun x w'' => NodeSaidB B (nodeC ⟨K, n, kids, nd⟩) w' x w'') := fun w' h => node_any B ⟨K, n, kids, nd⟩ a1 c1 ai ci ak ck w' h (unhide HKL)
    obtain ⟨M, hM⟩ : ∃ x, x = nodeC ⟨K, n, kids, nd⟩ := ⟨_, rfl⟩
    rw [← hM] at HNODE
    have HME2 := hide hM.symm
    clear hM HK3 z1 f1 HQ HQ2 HQ3 HK2 HN2 HT HH HC
    generalize w3.setCell ⟨o, 1 + (2 + i), none⟩ (.int .i64 1) = w4 at *
    have hnn : (0 : Int) ≤ 2 + (i : Int) := by omega
    have htn : ((2 : Int) + (i : Int)).toNat = 2 + i := by omega
    refine wp_region_noPanic ?_
    refine wp_region_held_drew (S := fun w' => w'.cell? ⟨b0, 0, none⟩ = some (.int .i64 K) ∧ w'.cell? ⟨b0, 1, none⟩ = some (.int .i64 n) ∧ w'.cell? ⟨b0, 2, none⟩ = some (.slice a1 kids.length c1) ∧ w'.cell? ⟨b0, 3, none⟩ = some (.bool nd.leaf) ∧ w'.cell? ⟨b0, 4, none⟩ = some (.slice ai nd.its.length ci) ∧ w'.cell? ⟨b0, 5, none⟩ = some (.slice ak nd.kds.length ck)) (by kernel_rfl) (unhide HQ4) (fun hHeld => ?_)
    refine takeY 0 (some 25) ?_ rfl rfl (by kernel_rfl) (by kernel_rfl) (by kernel_rfl) (fun _ _ _ h => h) (by rfl) ?_ hHeld ?_
    rotate_left
    · intro w hSw; (try dsimp only at hSw); go_simp <;> with_reducible rfl
    simp only [Act.put, List.setIfInBounds_toArray, List.set_cons_zero, List.set_cons_succ]
    refine takeY 1 (some 26) ?_ rfl rfl (by kernel_rfl) (by kernel_rfl) (by kernel_rfl) (fun _ _ _ h => h) (by rfl) ?_ hHeld ?_
    rotate_left
    · intro w hSw; (try dsimp only at hSw); go_simp <;> with_reducible rfl
    simp only [Act.put, List.setIfInBounds_toArray, List.set_cons_zero, List.set_cons_succ]
    refine takeY 2 (some 27) ?_ rfl rfl (by kernel_rfl) (by kernel_rfl) (by kernel_rfl) (fun _ _ _ h => h) (by rfl) ?_ hHeld ?_
    rotate_left
    · intro w hSw; (try dsimp only at hSw); go_simp <;> with_reducible rfl
    simp only [Act.put, List.setIfInBounds_toArray, List.set_cons_zero, List.set_cons_succ]
    refine takeY 4 (some 29) ?_ rfl rfl (by kernel_rfl) (by kernel_rfl) (by kernel_rfl) (fun _ _ _ h => h) (by rfl) ?_ hHeld ?_
    rotate_left
    · intro w hSw; (try dsimp only at hSw); go_simp <;> with_reducible rfl
    simp only [Act.put, List.setIfInBounds_toArray, List.set_cons_zero, List.set_cons_succ]
    refine takeY 5 (some 30) ?_ rfl rfl (by kernel_rfl) (by kernel_rfl) (by kernel_rfl) (fun _ _ _ h => h) (by rfl) ?_ hHeld ?_
    rotate_left
    · intro w hSw; (try dsimp only at hSw); go_simp <;> with_reducible rfl
    simp only [Act.put, List.setIfInBounds_toArray, List.set_cons_zero, List.set_cons_succ]
    refine wpAnyH_ready (rs := [3]) (by kernel_rfl) (by simp) ?_
    refine AllReadyH.cons rfl (fun K hK => ?_) AllReadyH.nil
    go_simp
    refine (unhide HNODE _ (unhide HC4)).mono ?_
    rintro e w5 ⟨bi', bk', di', dk', rfl, hh, hb, si, sk⟩
    have HQ5 := hide (six_below (unhide HQ4) hb)
    have hk5 := (unhide HK4).grow hb
    have HK5 := hide hk5
    have HN5 := hide hh
    have HS5 := hide (And.intro si sk)
    have HSZ5 := hide hb.size
    obtain ⟨z00, z01, z02⟩ := hk5.held.nod (2 + i) hi16
    have fz0 := hk5.held.free (17 + (2 + i) * 3)
    have fz1 := hk5.held.free (17 + (2 + i) * 3 + 1)
    have fz2 := hk5.held.free (17 + (2 + i) * 3 + 2)
    clear hh hb si sk hk5
    refine hK.out _ _ (unhide HQ5) (fun hHeld => ?_)
    clear hK K
    try simp only [Act.put, List.setIfInBounds_toArray, List.set_cons_zero, List.set_cons_succ]
    refine takeY 6 (some 31) ?_ rfl rfl (by kernel_rfl) (by kernel_rfl) (by kernel_rfl) (fun _ _ _ h => h) (by rfl) ?_ hHeld ?_
    rotate_left
    · intro w hSw; (try dsimp only at hSw); go_simp <;> with_reducible rfl
    simp only [Act.put, List.setIfInBounds_toArray, List.set_cons_zero, List.set_cons_succ]
    refine wpAnyH_ready (rs := [7]) (by kernel_rfl) (by simp) ?_
    refine AllReadyH.cons rfl (fun K hK => ?_) AllReadyH.nil
    go_simp
    have HQ9 := hide (six_set (six_set (six_set (unhide HQ5) (unhide HNE) (17 + (2 + i) * 3) (.bool M.leaf)) (unhide HNE) (17 + (2 + i) * 3 + 1) (.slice bi' M.its.length di')) (unhide HNE) (17 + (2 + i) * 3 + 2) (.slice bk' M.kds.length dk'))
    refine hK.out _ _ (unhide HQ9) (fun hHeld => ?_)
    clear hK K
    try simp only [Act.put, List.setIfInBounds_toArray, List.set_cons_zero, List.set_cons_succ]
    refine wpAnyH_done (by kernel_rfl) ?_ _
    refine NoPanic.normal ?_
    go_wp2
    go_end0
    rw [unhide HS2, unhide HME2]
    have hk5 := unhide HK5
    rw [unhide HME2] at hk5
    have hFb : ∀ x ∈ F', B ≤ x ∧ x < w4.drew.heap.size := fun x hx => ⟨hk5.hF x hx, (unhide HK4).heap.lt x hx⟩
    have hob : B ≤ o ∧ o < w4.drew.heap.size := ⟨hk5.ho, (unhide HK4).held.lt⟩
    exact ⟨rfl, F', _, hk5.note hi16 (unhide HN5) (Out.of (unhide HN5).1 (unhide HS5).1 hFb hob) (Out.of (unhide HN5).2 (unhide HS5).2 hFb hob)⟩
  · have hs2 := unhide HS
    rw [if_neg hE] at hs2
    have HS2 := hide hs2
    obtain ⟨E, hEE⟩ : ∃ x, x = (putR s.h (nodeC ⟨K, n, kids, nd⟩)).2.1 := ⟨_, rfl⟩
    have hE1 : (E == 0) = false := beq_eq_false_iff_ne.2 (by rw [hEE]; exact hE)
    have HRES : Hid (putR s.h (nodeC ⟨K, n, kids, nd⟩) = ((putR s.h (nodeC ⟨K, n, kids, nd⟩)).1, E, (putR s.h (nodeC ⟨K, n, kids, nd⟩)).2.2)) := by rw [hEE]; exact rfl
    have HCP : Hid (∀ j : Nat, j < 16 → 0 < (putR s.h (nodeC ⟨K, n, kids, nd⟩)).2.2.cnt (j : Int) → 0 < s.h.cnt (j : Int)) := fun j _ hp => by
      rcases cnt_put_pos (j : Int) hp with h1 | ⟨h1, _⟩
      · exact h1
      · exact absurd h1 hE
    clear hE hs2 hEE
    go_region_held3 (fun w' => w'.cell? ⟨o, 0, none⟩ = some (.pointer (some ⟨p, 0, none⟩)) ∧ w'.cell? ⟨b0, 0, none⟩ = some (.int .i64 K) ∧ w'.cell? ⟨b0, 1, none⟩ = some (.int .i64 n) ∧ w'.cell? ⟨b0, 2, none⟩ = some (.slice a1 kids.length c1) ∧ w'.cell? ⟨b0, 3, none⟩ = some (.bool nd.leaf) ∧ w'.cell? ⟨b0, 4, none⟩ = some (.slice ai nd.its.length ci) ∧ w'.cell? ⟨b0, 5, none⟩ = some (.slice ak nd.kds.length ck))
    (first | assumption | exact ⟨x0, unhide HQ⟩ | exact ⟨y0, unhide HQ2⟩ | exact ⟨z0, unhide HQ3⟩)
    (first
      | (go_at_call 46; go_split_ands; refine (node_any B ⟨K, n, kids, nd⟩ a1 c1 ai ci ak ck _ (unhide HC) (unhide HKL)).mono ?_; rintro e w2 ⟨bi, bk, di, dk, rfl, hh, hb, si, sk⟩; have k2 := (unhide HH).grow hb; have y0 := k2.held.ptr; have HQ2 := hide (six_below (w := w1.drew) (unhide HQ) hb); have HK2 := hide k2; have HN2 := hide hh; clear hh hb si sk k2)
      | (go_at_call 30; go_split_ands; refine (hput_any (nodeC ⟨K, n, kids, nd⟩) bi bk di dk _ (unhide HK2).heap (unhide HN2) (unhide HLE).1 (unhide HLE).2 (unhide HBR) (unhide HCC)).mono ?_; rintro e w3 ⟨rfl, ht⟩; rw [unhide HRES]; dsimp only; have z0 := ((unhide HK2).held.keep ht.moves (unhide HK2).no).ptr; have HQ3 := hide (six_moves (unhide HQ2) ht.moves (unhide HNB)); have HT := hide ht; clear ht))
    obtain ⟨F', hK3⟩ := (unhide HK2).turn (unhide HT) (unhide HCP)
    have HK3 := hide hK3
    clear hK3 x0 y0 z0
    go_wp2
    go_end0
    rw [unhide HS2]
    exact ⟨rfl, F', pv, unhide HK3⟩
end Go.Proofs.YteokbefcdpjkaaaGreatDoor
