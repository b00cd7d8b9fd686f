/- Texts that the proof needs, one behind the other. -/
import Derived.Test.YtdelobaiicoogaaGreatDoorMad
import Derived.Test.YtdelobaiicoogaaGreatDoorMae
import Derived.Lib.AppendStr
import Derived.Deep.RegionHeld3
/- What the two Shorts do: a short number's bytes. -/
namespace Go.Proofs.YtdelobaiicoogaaGreatDoor.L6
open Go.ChangeShapes Go.WideShapes Go.ChangeAt Go.RowKit

theorem or128 (m : Nat) : bits .or .u8 ((m : Int) % 256) 128 = ((m % 128 + 128 : Nat) : Int) := by
  have h := u8_or_nat (m % 256) 128 (by omega) (by decide)
  have e : ∀ x : Fin 256, x.val ||| 128 = x.val % 128 + 128 := by decide +kernel
  have e1 := e ⟨m % 256, by omega⟩
  simp only at e1
  rw [e1] at h
  have e2 : m % 256 % 128 = m % 128 := by omega
  rw [e2] at h
  have e3 : ((m % 256 : Nat) : Int) = (m : Int) % 256 := by omega
  rw [e3] at h
  exact h

/-- where the loop stands: what is written, what is left -/
def Mid (N : Nat) (pre : List Nat) (m : Nat) : Prop := ∃ f, pre ++ Pk.shF f m = Pk.shL N ∧ m < 2 ^ (7 * f + 1)
theorem Mid.start (N : Nat) (h : N < 18446744073709551616) : Mid N [] N := ⟨9, rfl, by simpa using h⟩
theorem Mid.step {N m : Nat} {pre : List Nat} (h : Mid N pre m) (hm : ¬ m < 128) : Mid N (pre ++ [m % 128 + 128]) (m / 128) := by
  obtain ⟨f, he, hl⟩ := h
  cases f with
  | zero => simp at hl; omega
  | succ f =>
    refine ⟨f, ?_, ?_⟩
    · rw [← he, Pk.shF_big f m hm, List.append_assoc]
      rfl
    · have : 2 ^ (7 * (f + 1) + 1) = 128 * 2 ^ (7 * f + 1) := by rw [show 7 * (f + 1) + 1 = (7 * f + 1) + 7 by omega, Nat.pow_add]; omega
      omega
theorem Mid.stop {N m : Nat} {pre : List Nat} (h : Mid N pre m) (hm : m < 128) : pre ++ [m] = Pk.shL N := by
  obtain ⟨f, he, _⟩ := h
  rw [← he, Pk.shF_small f m hm]
theorem Mid.len {N m : Nat} {pre : List Nat} (h : Mid N pre m) : pre.length ≤ 10 := by
  obtain ⟨f, he, _⟩ := h
  have := Pk.shL_le N
  rw [← he, List.length_append] at this
  omega

set_option maxRecDepth 10000 in
set_option maxHeartbeats 400000 in
theorem short_any (n : Int) (w : World) (hn : 0 ≤ n ∧ n < 18446744073709551616) :
    Calls Tryz.prog 131 #[.int .u64 n] w fun e w' => e = .returned (.string (strOf (Pk.shL n.toNat))) ∧ Below w.heap.size w w' := by
  obtain ⟨N, rfl⟩ := Int.eq_ofNat_of_zero_le hn.1
  have hN : N < 18446744073709551616 := by omega
  rw [Int.toNat_natCast]
  generalize hB : w.heap.size = B at *
  have HB := hide hB
  clear hB
  go_enter Tryz.func131, Tryz.ntmps131
  go_wp2
  go_loopw [0, 3] (fun t v wr => ∃ (m : Nat) (pre : List Nat), t = .int .u64 m ∧ m ≤ N ∧ Mid N pre m ∧ Own B wr v pre ∧ Below B w wr) (fun t _ _ => (intOf t).toNat)
  case atStart => exact ⟨N, [], rfl, Nat.le_refl _, Mid.start N hN, World.ownsRow_nil _ _ _ _, Below.refl _ _⟩
  case round =>
    obtain ⟨m, pre, rfl, hmN, hmid, hown, hbel⟩ := hrel
    have hBw : B ≤ wr.heap.size := by have := hbel.size; have := unhide HB; omega
    have HO := hide hown
    have HBel := hide hbel
    have HM := hide hmid
    have hlen := hmid.len
    clear hown hbel hmid
    by_cases hlt : m < 128
    · have hmod : (m : Int) % 256 = (m : Int) := by omega
      go_wp2_with (at_builtin; refine app_one (b := m) rfl _ _ rfl rfl rfl hBw (unhide HBel) (unhide HO) (by omega) ?_; intro a' cap' w' ho' hb'; have hcv := conv_own ho')
      go_ret
      rw [(unhide HM).stop hlt]
      exact ⟨rfl, hb'⟩
    · have hor := or128 m
      go_wp2_with (at_builtin; refine app_one (b := m % 128 + 128) rfl _ _ rfl rfl rfl hBw (unhide HBel) (unhide HO) (by omega) ?_; intro a' cap' w' ho' hb')
      go_roundw
      case rel => exact ⟨m / 128, pre ++ [m % 128 + 128], by go_num, by omega, (unhide HM).step hlt, ho', hb'⟩
      case measure => simp [intOf]; omega

set_option maxRecDepth 10000 in
set_option maxHeartbeats 400000 in
theorem refShort_any (n : Int) (w : World) (hn : 0 ≤ n ∧ n < 18446744073709551616) :
    Calls Tryz.prog 108 #[.int .u64 n] w fun e w' => e = .returned (.string (strOf (Pk.shL n.toNat))) ∧ Below w.heap.size w w' := by
  obtain ⟨N, rfl⟩ := Int.eq_ofNat_of_zero_le hn.1
  have hN : N < 18446744073709551616 := by omega
  rw [Int.toNat_natCast]
  generalize hB : w.heap.size = B at *
  have HB := hide hB
  clear hB
  go_enter Tryz.func108, Tryz.ntmps108
  go_wp2
  go_loopw [0, 3] (fun t v wr => ∃ (m : Nat) (pre : List Nat), t = .int .u64 m ∧ m ≤ N ∧ Mid N pre m ∧ Own B wr v pre ∧ Below B w wr) (fun t _ _ => (intOf t).toNat)
  case atStart => exact ⟨N, [], rfl, Nat.le_refl _, Mid.start N hN, World.ownsRow_nil _ _ _ _, Below.refl _ _⟩
  case round =>
    obtain ⟨m, pre, rfl, hmN, hmid, hown, hbel⟩ := hrel
    have hBw : B ≤ wr.heap.size := by have := hbel.size; have := unhide HB; omega
    have HO := hide hown
    have HBel := hide hbel
    have HM := hide hmid
    have hlen := hmid.len
    clear hown hbel hmid
    by_cases hlt : m < 128
    · have hmod : (m : Int) % 256 = (m : Int) := by omega
      go_wp2_with (at_builtin; refine app_one (b := m) rfl _ _ rfl rfl rfl hBw (unhide HBel) (unhide HO) (by omega) ?_; intro a' cap' w' ho' hb'; have hcv := conv_own ho')
      go_ret
      rw [(unhide HM).stop hlt]
      exact ⟨rfl, hb'⟩
    · have hor := or128 m
      go_wp2_with (at_builtin; refine app_one (b := m % 128 + 128) rfl _ _ rfl rfl rfl hBw (unhide HBel) (unhide HO) (by omega) ?_; intro a' cap' w' ho' hb')
      go_roundw
      case rel => exact ⟨m / 128, pre ++ [m % 128 + 128], by go_num, by omega, (unhide HM).step hlt, ho', hb'⟩
      case measure => simp [intOf]; omega

set_option maxRecDepth 10000 in
set_option maxHeartbeats 400000 in
theorem text_any (s : ByteArray) (w : World) (hs : s.size ≤ 1000000) :
    Calls Tryz.prog 130 #[.string s] w fun e w' => e = .returned (.string (strOf (Pk.shL s.size) ++ s)) ∧ Below w.heap.size w w' := by
  have hl := Pk.shL_le s.size
  have hz := strOf_size (Pk.shL s.size)
  have hz' : (strOf (Pk.shL s.size)).size ≤ 10 := by omega
  clear hz hl
  go_enter Tryz.func130, Tryz.ntmps130
  go_wp2_with (go_at_call 131; refine (short_any _ _ (by omega)).mono ?_; rw [Int.toNat_natCast]; rintro e w' ⟨rfl, hb⟩)
  go_ret
  exact ⟨rfl, hb⟩

set_option maxRecDepth 10000 in
set_option maxHeartbeats 400000 in
theorem refText_any (s : ByteArray) (w : World) (hs : s.size ≤ 1000000) :
    Calls Tryz.prog 140 #[.string s] w fun e w' => e = .returned (.string (strOf (Pk.shL s.size) ++ s)) ∧ Below w.heap.size w w' := by
  have hl := Pk.shL_le s.size
  have hz := strOf_size (Pk.shL s.size)
  have hz' : (strOf (Pk.shL s.size)).size ≤ 10 := by omega
  clear hz hl
  go_enter Tryz.func140, Tryz.ntmps140
  go_wp2_with (go_at_call 108; refine (refShort_any _ _ (by omega)).mono ?_; rw [Int.toNat_natCast]; rintro e w' ⟨rfl, hb⟩)
  go_ret
  exact ⟨rfl, hb⟩
end Go.Proofs.YtdelobaiicoogaaGreatDoor.L6

/- The writer of a node's entries: what it puts. -/
namespace Go.Proofs.YtdelobaiicoogaaGreatDoor.L6
open Go.ChangeShapes Go.WideShapes Go.ChangeAt Go.RowKit

theorem strCells_bn (s : ByteArray) : Lib.strCells s = cells (bn s) := by
  unfold Lib.strCells cells bn
  rw [List.map_map]
  rfl
theorem Own.shape {B : Nat} {w : World} {v : Value} {l : List Nat} (h : Own B w v l) : ∃ a cap, v = .slice a l.length cap := by
  rcases h.2 with ⟨rfl, hn⟩ | ⟨g, cap, cur, e, _⟩
  · exact ⟨none, 0, by rw [hn]⟩
  · exact ⟨_, _, e⟩
/-- rows of bytes aside, nothing but one block has turned -/
structure Turned (r : Nat) (w w' : World) : Prop where
  size : w.heap.size ≤ w'.heap.size
  block : ∀ k, k < w.heap.size → k ≠ r → (∀ cs, w.heap[k]? ≠ some (.cells cs 5 (0, 0))) → w'.heap[k]? = w.heap[k]?
theorem Turned.refl (r : Nat) (w : World) : Turned r w w := ⟨Nat.le_refl _, fun _ _ _ _ => rfl⟩
theorem Turned.of {r : Nat} {w w' : World} (h : Below w.heap.size w w') : Turned r w w' := ⟨h.size, fun k hk _ _ => h.block k hk⟩
theorem Turned.trans {r : Nat} {a b c : World} (h : Turned r a b) (k : Turned r b c) : Turned r a c :=
  ⟨Nat.le_trans h.size k.size, fun i hi hr hn => by
    have e := h.block i hi hr hn
    rw [k.block i (Nat.lt_of_lt_of_le hi h.size) hr (fun cs => by rw [e]; exact hn cs), e]⟩
theorem Turned.get {r p : Nat} {w w' : World} (h : Turned r w w') (hp : p ≠ r) {cs : Array Value} {t : TypeId} (ht : t ≠ 5) (hh : w.heap[p]? = some (.cells cs t (0, 0))) : w'.heap[p]? = some (.cells cs t (0, 0)) := by
  rw [h.block p (lt_of_block hh) hp (fun cs' => by rw [hh]; intro e; injection e with e; injection e with _ e _; exact ht e), hh]
theorem two_cell0 {w : World} {p : Nat} {a b : Value} {t : TypeId} (h : w.heap[p]? = some (.cells #[a, b] t (0, 0))) : w.cell? ⟨p, 0, none⟩ = some a := by simp [World.cell?, h]
theorem two_cell1 {w : World} {p : Nat} {a b : Value} {t : TypeId} (h : w.heap[p]? = some (.cells #[a, b] t (0, 0))) : w.cell? ⟨p, 1, none⟩ = some b := by simp [World.cell?, h]
theorem two_free {w : World} {p : Nat} {a b : Value} {t : TypeId} (h : w.heap[p]? = some (.cells #[a, b] t (0, 0))) (j : Nat) : w.frozen? ⟨p, j, none⟩ = false := by simp [World.frozen?, h]
theorem two_set0 {w : World} {p : Nat} {a b : Value} {t : TypeId} (h : w.heap[p]? = some (.cells #[a, b] t (0, 0))) (u : Value) : (w.setCell ⟨p, 0, none⟩ u).heap[p]? = some (.cells #[u, b] t (0, 0)) := by simp [World.setCell, Array.getElem?_modify, h]
theorem two_set1 {w : World} {p : Nat} {a b : Value} {t : TypeId} (h : w.heap[p]? = some (.cells #[a, b] t (0, 0))) (u : Value) : (w.setCell ⟨p, 1, none⟩ u).heap[p]? = some (.cells #[a, u] t (0, 0)) := by simp [World.setCell, Array.getElem?_modify, h]

/-- the writer in memory: so many entries, these bytes -/
def Wr (B : Nat) (w : World) (r c : Nat) (l : List Nat) : Prop := B ≤ r ∧ ∃ v, w.heap[r]? = some (.cells #[.int .i64 (c : Int), v] 213 (0, 0)) ∧ Own B w v l
/-- what a call of the writer's does to memory -/
def Put (B r : Nat) (w w' : World) : Prop := Below B w w' ∧ Turned r w w'
theorem Put.refl (B r : Nat) (w : World) : Put B r w w := ⟨Below.refl _ _, Turned.refl _ _⟩
theorem Put.trans {B r : Nat} {a b c : World} (h : Put B r a b) (k : Put B r b c) : Put B r a c := ⟨h.1.trans k.1, h.2.trans k.2⟩
theorem Put.of {B r : Nat} {w w' : World} (hB : B ≤ w.heap.size) (h : Below w.heap.size w w') : Put B r w w' := ⟨h.mono hB, .of h⟩
theorem Own.below {B : Nat} {w w' : World} {v : Value} {l : List Nat} (h : Own B w v l) (hb : Below w.heap.size w w') : Own B w' v l :=
  World.ownsRow.kept h (row := none) ⟨hb.os, hb.tape, hb.output, hb.size, fun k hk _ => hb.block k hk⟩ (by cases v.ownBlock <;> simp)
theorem Wr.below {B r c : Nat} {w w' : World} {l : List Nat} (h : Wr B w r c l) (hb : Below w.heap.size w w') : Wr B w' r c l := by
  obtain ⟨h1, v, h2, h3⟩ := h
  exact ⟨h1, v, (hb.block r (lt_of_block h2)).trans h2, h3.below hb⟩
theorem Wr.lt {B r c : Nat} {w : World} {l : List Nat} (h : Wr B w r c l) : r < w.heap.size := by
  obtain ⟨_, v, h2, _⟩ := h
  exact lt_of_block h2
theorem Own.notr {B r : Nat} {w : World} {v : Value} {l : List Nat} {cs : Array Value} (h : Own B w v l) (hr : w.heap[r]? = some (.cells cs 213 (0, 0))) : v.ownBlock ≠ some r := by
  rcases h.2 with ⟨rfl, _⟩ | ⟨g, cap, cur, rfl, _, hg, _⟩
  · simp [Value.ownBlock]
  · intro e
    simp [Value.ownBlock] at e
    subst e
    rw [hg] at hr
    simp at hr
/-- the own row of bytes is one -/
theorem Own.rowOf {B : Nat} {w : World} {v : Value} {l : List Nat} (h : Own B w v l) {k : Nat} (hk : v.ownBlock = some k) : ∃ cs, w.heap[k]? = some (.cells cs 5 (0, 0)) := by
  rcases h.2 with ⟨rfl, _⟩ | ⟨g, cap, cur, rfl, _, hg, _⟩
  · simp [Value.ownBlock] at hk
  · simp [Value.ownBlock] at hk
    subst hk
    exact ⟨_, hg⟩

/-- behind the append and the two stores -/
theorem Wr.put {B r c : Nat} {w w2 : World} {v v' : Value} {l : List Nat} {s : ByteArray} (hB : B ≤ r) (h : w.heap[r]? = some (.cells #[.int .i64 (c : Int), v] 213 (0, 0))) (ho : Own B w v l)
    (h2 : w2.ownsRow B 5 1 v' (l.length + s.size) (cells l ++ Lib.strCells s)) (hg : (w.setCell ⟨r, 0, none⟩ (.int .i64 ((c : Int) + 1))).grownBy w2 v.ownBlock) :
    Wr B (w2.setCell ⟨r, 1, none⟩ v') r (c + 1) (l ++ bn s) ∧ Put B r w (w2.setCell ⟨r, 1, none⟩ v') := by
  have hr := lt_of_block h
  have hn := ho.notr h
  have e1 : (w.setCell ⟨r, 0, none⟩ (.int .i64 ((c : Int) + 1))).heap[r]? = some (.cells #[.int .i64 ((c : Int) + 1), v] 213 (0, 0)) := two_set0 h _
  have hz : (w.setCell ⟨r, 0, none⟩ (.int .i64 ((c : Int) + 1))).heap.size = w.heap.size := by simp [World.setCell]
  have e2 : w2.heap[r]? = some (.cells #[.int .i64 ((c : Int) + 1), v] 213 (0, 0)) := (hg.block r (by rw [hz]; exact hr) hn.symm).trans e1
  have ho2 : Own B w2 v' (l ++ bn s) := by
    unfold Own
    rw [List.length_append, bn_length, cells_append, ← strCells_bn]
    exact h2
  refine ⟨⟨hB, v', ?_, ?_⟩, ?_, ?_⟩
  · have := two_set1 e2 v'
    rw [this]
    norm_cast
  · exact ownsRow_setCell_other ho2 (ho2.notr e2) v'
  · refine Below.setCell ?_ hB v'
    refine ((Below.refl B w).setCell hB _).grown hg ?_ ?_
    · rw [hz]; omega
    · intro k hk
      exact (World.ownsRow.lt ho k hk).1
  · refine ⟨?_, fun k hk hkr hu => ?_⟩
    · have := hg.size
      rw [hz] at this
      simpa [World.setCell] using this
    · have hk2 : v.ownBlock ≠ some k := fun e => by
        obtain ⟨cs, hcs⟩ := ho.rowOf e
        exact hu cs hcs
      rw [Below.heap_setCell _ _ _ _ hkr, hg.block k (by rw [hz]; exact hk) hk2.symm, Below.heap_setCell _ _ _ _ hkr]
theorem Own.set {B r : Nat} {w : World} {v : Value} {l : List Nat} {cs : Array Value} (h : Own B w v l) (hr : w.heap[r]? = some (.cells cs 213 (0, 0))) (u : Value) : Own B (w.setCell ⟨r, 0, none⟩ u) v l :=
  ownsRow_setCell_other h (h.notr hr) u
end Go.Proofs.YtdelobaiicoogaaGreatDoor.L6

/- What the writer's calls answer. -/
namespace Go.Proofs.YtdelobaiicoogaaGreatDoor.L6
open Go.ChangeShapes Go.WideShapes Go.ChangeAt Go.RowKit

/-- how many bytes a node has, with so many entries of so many bytes -/
def sz (c k : Nat) : Nat := 1 + (Pk.shL c).length + k

theorem Wr.app {B r c : Nat} {w w2 : World} {v v' : Value} {l : List Nat} {s : ByteArray} (h : w.heap[r]? = some (.cells #[.int .i64 (c : Int), v] 213 (0, 0))) (ho : Own B w v l)
    (h2 : w2.ownsRow B 5 1 v' (l.length + s.size) (cells l ++ Lib.strCells s)) (hg : (w.setCell ⟨r, 0, none⟩ (.int .i64 ((c : Int) + 1))).grownBy w2 v.ownBlock) :
    ∃ a' cap', v' = .slice a' (l.length + s.size) cap' ∧ w2.cell? ⟨r, 0, none⟩ = some (.int .i64 ((c : Int) + 1)) ∧ w2.cell? ⟨r, 1, none⟩ = some v ∧ w2.frozen? ⟨r, 1, none⟩ = false ∧ (w2.setCell ⟨r, 1, none⟩ v').heap[r]? = some (.cells #[.int .i64 ((c : Int) + 1), v'] 213 (0, 0)) := by
  have e1 : (w.setCell ⟨r, 0, none⟩ (.int .i64 ((c : Int) + 1))).heap[r]? = some (.cells #[.int .i64 ((c : Int) + 1), v] 213 (0, 0)) := two_set0 h _
  have e2 := (hg.block r (by simpa [World.setCell] using lt_of_block h) (ho.notr h).symm).trans e1
  have : ∃ a' cap', v' = .slice a' (l.length + s.size) cap' := by
    rcases h2.2 with ⟨rfl, hn⟩ | ⟨g, cap, cur, e, _⟩
    · exact ⟨none, 0, by rw [hn]⟩
    · exact ⟨_, _, e⟩
  obtain ⟨a', cap', e⟩ := this
  exact ⟨a', cap', e, two_cell0 e2, two_cell1 e2, two_free e2 1, two_set1 e2 _⟩

theorem add_run' (A B : ByteArray) (h : A.size + B.size ≤ 1000000) : ∀ w : World, (Op.stringOp .add A B).run Tryz.prog w = .ok (.string (A ++ B)) w := fun w => by
  simp [Op.stringOp]
  omega

set_option maxRecDepth 10000 in
set_option maxHeartbeats 2000000 in
theorem put_any (B r c : Nat) (l : List Nat) (s : ByteArray) (w : World) (h : Wr B w r c l) (hc : c ≤ 1000000) (hl : l.length + s.size ≤ 1000000) :
    Calls Tryz.prog 129 #[.pointer (some ⟨r, 0, none⟩), .string s] w fun e w' => e = .returned (.int .i64 (sz (c + 1) (l.length + s.size) : Nat)) ∧ Wr B w' r (c + 1) (l ++ bn s) ∧ Put B r w w' := by
  obtain ⟨hB, v, hb, ho⟩ := h
  have c0 := two_cell0 hb
  have c1 := two_cell1 hb
  have f0 := two_free hb 0
  have f1 := two_free hb 1
  have hlt := lt_of_block hb
  obtain ⟨a, cap, rfl⟩ := ho.shape
  have HB := hide hb
  have HO := hide ho
  have HO1 := hide (ho.set hb (.int .i64 ((c : Int) + 1)))
  obtain ⟨i0, hi, hz0, hz1, hz2⟩ := info_parts info5
  have HQ := hide (And.intro hi (And.intro hz0 (And.intro hz1 hz2)))
  clear hb ho hi hz0 hz1 hz2
  go_enter Tryz.func129, Tryz.ntmps129
  go_wp2_with (at_builtin; refine Lib.wpList_append_own_string _ rfl (.tmp 16) (.tmp 17) 140 9 rfl B 5 i0 Tryz.underlying140 Tryz.underlying9 (unhide HQ).1 (unhide HQ).2.1 (unhide HQ).2.2.1 (unhide HQ).2.2.2 _ l.length (cells l) rfl (unhide HO1) s rfl (by unfold maxLen; omega) (by omega) (by simp; omega) ?_; intro v' w2 h2 hg _; obtain ⟨a', cap', rfl, x0, x1, xf, xh⟩ := Wr.app (unhide HB) (unhide HO) h2 hg; have HX := hide xh; have HW := hide (Wr.put hB (unhide HB) (unhide HO) h2 hg); clear h2 hg xh)
  have y0 := two_cell0 (unhide HX)
  have y1 := two_cell1 (unhide HX)
  clear HX x0 x1 xf c0 c1 f0 f1 hlt HB HO HO1 HQ
  generalize w2.setCell ⟨r, 1, none⟩ (.slice a' (l.length + s.size) cap') = w3 at *
  have hw : IntKind.u64.wrap ((c : Int) + 1) = (c : Int) + 1 := by rw [IntKind.wrap_u64]; omega
  have HS := hide (fun W => short_any ((c : Int) + 1) W (by omega))
  have hsl := Pk.shL_le (c + 1)
  have en : ((c : Int) + 1).toNat = c + 1 := by omega
  rw [en] at HS
  have hss := strOf_size (Pk.shL (c + 1))
  have HE : Hid ((sz (c + 1) (l.length + s.size) : Int) = 1 + ((strOf (Pk.shL (c + 1))).size : Int) + ((l.length : Int) + (s.size : Int))) := by
    show _ = _
    unfold sz
    rw [hss]
    push_cast
    omega
  have hs10 : (strOf (Pk.shL (c + 1))).size ≤ 10 := by omega
  clear hss hsl en
  generalize strOf (Pk.shL (c + 1)) = T at *
  have H0 : Hid (Below w3.heap.size w3 w3.drew ∧ w3.drew.cell? ⟨r, 0, none⟩ = some (.int .i64 ((c : Int) + 1)) ∧ w3.drew.cell? ⟨r, 1, none⟩ = some (.slice a' (l.length + s.size) cap')) := ⟨below_drew _, y0, y1⟩
  clear y0 y1
  go_region_held3 (fun w' => Below w3.heap.size w3 w' ∧ w'.cell? ⟨r, 0, none⟩ = some (.int .i64 ((c : Int) + 1)) ∧ w'.cell? ⟨r, 1, none⟩ = some (.slice a' (l.length + s.size) cap'))
    (first | assumption | exact unhide H0)
    (first | (go_at_call 131; refine (unhide HS _).mono ?_; rintro e w4 ⟨rfl, hb⟩; have H1 : Below w3.heap.size w3 w4 ∧ w4.cell? ⟨r, 0, none⟩ = some (.int .i64 ((c : Int) + 1)) ∧ w4.cell? ⟨r, 1, none⟩ = some (.slice a' (l.length + s.size) cap') := ⟨below_then (unhide H0).1 hb, cell_keep (unhide H0).2.1 hb, cell_keep (unhide H0).2.2 hb⟩))
  have HF := hide H1.1
  clear H1 hb HS
  go_wp2
  go_ret
  refine ⟨ret_int ?_, (unhide HW).1.below (unhide HF), (unhide HW).2.trans (Put.of ?_ (unhide HF))⟩
  · rw [unhide HE, IntKind.wrap_i64, IntKind.wrap_i64]
    omega
  · have := (unhide HW).1.lt
    omega

set_option maxRecDepth 10000 in
set_option maxHeartbeats 2000000 in
theorem item_any (B r c : Nat) (l : List Nat) (x : It) (w : World) (h : Wr B w r c l) (hc : c ≤ 1000000) (hl : l.length + (itL x).length ≤ 1000000) :
    Calls Tryz.prog 95 #[.pointer (some ⟨r, 0, none⟩), .agg #[.string x.1, .string x.2]] w fun e w' => e = .returned (.int .i64 (sz (c + 1) (l ++ itL x).length : Nat)) ∧ Wr B w' r (c + 1) (l ++ itL x) ∧ Put B r w w' := by
  obtain ⟨k, v⟩ := x
  have hrp : w.heap.size ≠ r := by have := h.lt; omega
  have hBw : B ≤ w.heap.size := by have := h.lt; have := h.1; omega
  have hlen : (itL (k, v)).length = (txL k).length + (txL v).length := by unfold itL; exact List.length_append
  have hk1 : k.size ≤ (txL k).length := by unfold txL; rw [List.length_append, bn_length]; omega
  have hv1 : v.size ≤ (txL v).length := by unfold txL; rw [List.length_append, bn_length]; omega
  have hks : k.size ≤ 1000000 := by omega
  have hvs : v.size ≤ 1000000 := by omega
  have T1 := hide (fun W => text_any k W hks)
  have T2 := hide (fun W => text_any v W hvs)
  rw [strOf_txL] at T1 T2
  have hz1 := strOf_size (txL k)
  have hz2 := strOf_size (txL v)
  have HW := hide (h.below (below_alloc w (.cells #[.string k, .string v] 58)))
  have hp := heap_alloc_new w (.cells #[.string k, .string v] 58)
  have HP := hide (And.intro hrp hBw)
  have HBW := hide hBw
  have HB0 := hide (below_alloc w (.cells #[.string k, .string v] 58))
  have HE : Hid (bn (strOf (txL k) ++ strOf (txL v)) = itL (k, v)) := by
    show _ = _
    rw [bn_append, bn_strOf _ (txL_lt k), bn_strOf _ (txL_lt v)]
    rfl
  have hsum : (strOf (txL k)).size + (strOf (txL v)).size ≤ 1000000 := by omega
  have HL : Hid (l.length + (strOf (txL k)).size + (strOf (txL v)).size ≤ 1000000) := by show _ ≤ _; omega
  clear h hlen hl hk1 hv1 hks hvs hz1 hz2 hrp hBw
  go_enter Tryz.func95, Tryz.ntmps95
  go_wp2_with fail
  generalize strOf (txL k) = K at *
  generalize strOf (txL v) = V at *
  obtain ⟨p, hp'⟩ : ∃ y, y = w.heap.size := ⟨_, rfl⟩
  rw [← hp'] at hp HP ⊢
  generalize w.alloc (.cells #[.string k, .string v] 58) = w1 at *
  have q0 := two_cell0 hp
  have q1 := two_cell1 hp
  have HQ := hide hp
  clear hp hp'
  have hadd := add_run' K V hsum
  have KP : Hid (∀ wa wb, (wa.heap[p]? = some (.cells #[.string k, .string v] 58 (0, 0)) ∧ wa.cell? ⟨p, 0, none⟩ = some (.string k) ∧ wa.cell? ⟨p, 1, none⟩ = some (.string v)) → Turned r wa wb → (wb.heap[p]? = some (.cells #[.string k, .string v] 58 (0, 0)) ∧ wb.cell? ⟨p, 0, none⟩ = some (.string k) ∧ wb.cell? ⟨p, 1, none⟩ = some (.string v))) := by
    show ∀ wa wb, _
    intro wa wb h ht
    have := ht.get (unhide HP).1 (by decide) h.1
    exact ⟨this, two_cell0 this, two_cell1 this⟩
  have H0 : Hid (w1.drew.heap[p]? = some (.cells #[.string k, .string v] 58 (0, 0)) ∧ w1.drew.cell? ⟨p, 0, none⟩ = some (.string k) ∧ w1.drew.cell? ⟨p, 1, none⟩ = some (.string v)) := ⟨unhide HQ, q0, q1⟩
  have HWD := hide ((unhide HW).below (below_drew _))
  clear HQ q0 q1 HW
  go_region_held3 (fun w' => w'.heap[p]? = some (.cells #[.string k, .string v] 58 (0, 0)) ∧ w'.cell? ⟨p, 0, none⟩ = some (.string k) ∧ w'.cell? ⟨p, 1, none⟩ = some (.string v))
    (first | assumption | exact unhide H0)
    (first
      | (go_at_call 129; refine (put_any B r c l _ _ (unhide HW2) hc ?_).mono ?_; (rw [ByteArray.size_append]; have := unhide HL; omega); rintro e w4 ⟨rfl, hw4, hp4⟩; have H4 := unhide KP _ _ H2 hp4.2; have HW4 := hide hw4; have HP4 := hide hp4; clear hw4 hp4)
      | (go_at_call 130; refine (unhide T1 _).mono ?_; rintro e w2 ⟨rfl, hb⟩; have H1 := unhide KP _ _ (unhide H0) (Turned.of (r := r) hb); have HW1 := hide ((unhide HWD).below hb); have HB1 := hide hb; clear hb T1)
      | (go_at_call 130; refine (unhide T2 _).mono ?_; rintro e w3 ⟨rfl, hb⟩; have H2 := unhide KP _ _ H1 (Turned.of (r := r) hb); have HW2 := hide ((unhide HW1).below hb); have HB2 := hide hb; clear hb))
  have HF := hide ((Put.of (r := r) (unhide HBW) (below_then (below_then (below_then (unhide HB0) (below_drew _)) (unhide HB1)) (unhide HB2))).trans (unhide HP4))
  clear HP4 HB2 HB1 HB0 KP H0 H1 H2 H4 HW1 HW2 HWD T2 hadd
  go_wp2
  go_ret
  have e := unhide HE
  refine ⟨ret_int ?_, ?_, unhide HF⟩
  · rw [← e, List.length_append, bn_length, ByteArray.size_append]
  · rw [← e]
    exact unhide HW4
set_option maxRecDepth 10000 in
set_option maxHeartbeats 2000000 in
theorem kid_any (B r c : Nat) (l : List Nat) (x : Kd) (w : World) (h : Wr B w r c l) (hv : 0 ≤ x.2 ∧ x.2 < 9223372036854775808) (hc : c ≤ 1000000) (hl : l.length + (kdL x).length ≤ 1000000) :
    Calls Tryz.prog 98 #[.pointer (some ⟨r, 0, none⟩), .agg #[.string x.1, .int .i64 x.2]] w fun e w' => e = .returned (.int .i64 (sz (c + 1) (l ++ kdL x).length : Nat)) ∧ Wr B w' r (c + 1) (l ++ kdL x) ∧ Put B r w w' := by
  obtain ⟨k, v⟩ := x
  have hrp : w.heap.size ≠ r := by have := h.lt; omega
  have hBw : B ≤ w.heap.size := by have := h.lt; have := h.1; omega
  have hlen : (kdL (k, v)).length = (txL k).length + (Pk.shL v.toNat).length := by unfold kdL; exact List.length_append
  have hk1 : k.size ≤ (txL k).length := by unfold txL; rw [List.length_append, bn_length]; omega
  have hv1 := Pk.shL_le v.toNat
  have hks : k.size ≤ 1000000 := by omega
  simp only at hv
  have hw : IntKind.u64.wrap v = v := by rw [IntKind.wrap_u64]; omega
  have T1 := hide (fun W => text_any k W hks)
  have T2 := hide (fun W => short_any v W (by omega))
  rw [strOf_txL] at T1
  have hz1 := strOf_size (txL k)
  have hz2 := strOf_size (Pk.shL v.toNat)
  have HW := hide (h.below (below_alloc w (.cells #[.string k, .int .i64 v] 76)))
  have hp := heap_alloc_new w (.cells #[.string k, .int .i64 v] 76)
  have HP := hide (And.intro hrp hBw)
  have HBW := hide hBw
  have HB0 := hide (below_alloc w (.cells #[.string k, .int .i64 v] 76))
  have HE : Hid (bn (strOf (txL k) ++ strOf (Pk.shL v.toNat)) = kdL (k, v)) := by
    show _ = _
    rw [bn_append, bn_strOf _ (txL_lt k), bn_strOf _ (Pk.shL_lt _)]
    rfl
  have hsum : (strOf (txL k)).size + (strOf (Pk.shL v.toNat)).size ≤ 1000000 := by omega
  have HL : Hid (l.length + (strOf (txL k)).size + (strOf (Pk.shL v.toNat)).size ≤ 1000000) := by show _ ≤ _; omega
  clear h hlen hl hk1 hv1 hks hz1 hz2 hrp hBw
  go_enter Tryz.func98, Tryz.ntmps98
  go_wp2_with fail
  generalize strOf (txL k) = K at *
  generalize strOf (Pk.shL v.toNat) = V at *
  obtain ⟨p, hp'⟩ : ∃ y, y = w.heap.size := ⟨_, rfl⟩
  rw [← hp'] at hp HP ⊢
  generalize w.alloc (.cells #[.string k, .int .i64 v] 76) = w1 at *
  have q0 := two_cell0 hp
  have q1 := two_cell1 hp
  have HQ := hide hp
  clear hp hp'
  have hadd := add_run' K V hsum
  have KP : Hid (∀ wa wb, (wa.heap[p]? = some (.cells #[.string k, .int .i64 v] 76 (0, 0)) ∧ wa.cell? ⟨p, 0, none⟩ = some (.string k) ∧ wa.cell? ⟨p, 1, none⟩ = some (.int .i64 v)) → Turned r wa wb → (wb.heap[p]? = some (.cells #[.string k, .int .i64 v] 76 (0, 0)) ∧ wb.cell? ⟨p, 0, none⟩ = some (.string k) ∧ wb.cell? ⟨p, 1, none⟩ = some (.int .i64 v))) := by
    show ∀ wa wb, _
    intro wa wb h ht
    have := ht.get (unhide HP).1 (by decide) h.1
    exact ⟨this, two_cell0 this, two_cell1 this⟩
  have H0 : Hid (w1.drew.heap[p]? = some (.cells #[.string k, .int .i64 v] 76 (0, 0)) ∧ w1.drew.cell? ⟨p, 0, none⟩ = some (.string k) ∧ w1.drew.cell? ⟨p, 1, none⟩ = some (.int .i64 v)) := ⟨unhide HQ, q0, q1⟩
  have HWD := hide ((unhide HW).below (below_drew _))
  clear HQ q0 q1 HW
  go_region_held3 (fun w' => w'.heap[p]? = some (.cells #[.string k, .int .i64 v] 76 (0, 0)) ∧ w'.cell? ⟨p, 0, none⟩ = some (.string k) ∧ w'.cell? ⟨p, 1, none⟩ = some (.int .i64 v))
    (first | assumption | exact unhide H0)
    (first
      | (go_at_call 129; refine (put_any B r c l _ _ (unhide HW2) hc ?_).mono ?_; (rw [ByteArray.size_append]; have := unhide HL; omega); rintro e w4 ⟨rfl, hw4, hp4⟩; have H4 := unhide KP _ _ H2 hp4.2; have HW4 := hide hw4; have HP4 := hide hp4; clear hw4 hp4)
      | (go_at_call 130; refine (unhide T1 _).mono ?_; rintro e w2 ⟨rfl, hb⟩; have H1 := unhide KP _ _ (unhide H0) (Turned.of (r := r) hb); have HW1 := hide ((unhide HWD).below hb); have HB1 := hide hb; clear hb T1)
      | (go_at_call 131; refine (unhide T2 _).mono ?_; rintro e w3 ⟨rfl, hb⟩; have H2 := unhide KP _ _ H1 (Turned.of (r := r) hb); have HW2 := hide ((unhide HW1).below hb); have HB2 := hide hb; clear hb))
  have HF := hide ((Put.of (r := r) (unhide HBW) (below_then (below_then (below_then (unhide HB0) (below_drew _)) (unhide HB1)) (unhide HB2))).trans (unhide HP4))
  clear HP4 HB2 HB1 HB0 KP H0 H1 H2 H4 HW1 HW2 HWD T2 hadd
  go_wp2
  go_ret
  have e := unhide HE
  refine ⟨ret_int ?_, ?_, unhide HF⟩
  · rw [← e, List.length_append, bn_length, ByteArray.size_append]
  · rw [← e]
    exact unhide HW4
end Go.Proofs.YtdelobaiicoogaaGreatDoor.L6

/- All entries are handed to the writer. -/
namespace Go.Proofs.YtdelobaiicoogaaGreatDoor.L6
open Go.ChangeShapes Go.WideShapes Go.ChangeAt Go.RowKit

theorem take_flat {α : Type} (f : α → List Nat) {l : List α} {k : Nat} {x : α} (h : l[k]? = some x) : (l.take (k + 1)).flatMap f = (l.take k).flatMap f ++ f x := by
  rw [List.take_add_one, h, List.flatMap_append]
  simp
theorem take_flat_le {α : Type} (f : α → List Nat) (l : List α) (k : Nat) : ((l.take k).flatMap f).length ≤ (l.flatMap f).length := by
  conv => rhs; rw [← List.take_append_drop k l, List.flatMap_append, List.length_append]
  omega
/-- entries don't lie in the writer's block -/
theorem row_not_writer {w : World} {b o c : Nat} {v : Value} {s : ByteArray} (h : w.heap[b]? = some (.cells #[.int .i64 (c : Int), v] 213 (0, 0))) (hv : ∃ a n cap, v = .slice a n cap) (h0 : w.cell? ⟨b, o, none⟩ = some (.string s)) : False := by
  obtain ⟨a, n, cap, rfl⟩ := hv
  rcases o with _ | _ | o
  · rw [two_cell0 h] at h0; simp at h0
  · rw [two_cell1 h] at h0; simp at h0
  · simp [World.cell?, h] at h0

set_option maxRecDepth 10000 in
set_option maxHeartbeats 2000000 in
theorem eachI_any (B r : Nat) (a : Option Addr) (cap : Nat) (es : List It) (w : World) (h : Wr B w r 0 []) (hrow : Row Value.string w a es) (hlow : ∀ k, k < w.heap.size → k ≠ r → k < B) (hn : es.length ≤ 900000) (hl : (es.flatMap itL).length ≤ 900000) :
    Calls Tryz.prog 94 #[.slice a es.length cap, .func (.func 95) #[.pointer (some ⟨r, 0, none⟩)] #[]] w fun e w' => e = .returned (.tuple #[]) ∧ Wr B w' r es.length (es.flatMap itL) ∧ Below B w w' := by
  have HR := hide hrow
  have HW0 := hide h
  have HLOW := hide hlow
  clear hrow h hlow
  go_enter Tryz.func94, Tryz.ntmps94
  go_wp2
  go_loopw [8] (fun t wr => ∃ k : Nat, k ≤ es.length ∧ t = .int .i64 k ∧ Wr B wr r k ((es.take k).flatMap itL) ∧ Below B w wr) (fun t _ => es.length - (intOf t).toNat)
  case atStart => exact ⟨0, Nat.zero_le _, rfl, unhide HW0, Below.refl _ _⟩
  case round =>
    obtain ⟨k, hk, rfl, hw, hbel⟩ := hrel
    have HW := hide hw
    have HBel := hide hbel
    clear hw hbel
    by_cases hlt : k < es.length
    · obtain ⟨b, off, rfl, hr⟩ := (unhide HR).at hlt
      obtain ⟨⟨key, val⟩, hx⟩ := get_some hlt
      have hbB : b < B := by
        have h1 := (hr k _ hx).1
        refine unhide HLOW b (World.block_lt_of_cell? _ _ h1) (fun e => ?_)
        subst e
        obtain ⟨_, v, hb, ho⟩ := unhide HW0
        obtain ⟨a, cap, e⟩ := ho.shape
        exact row_not_writer hb ⟨_, _, _, e⟩ (hr k _ hx).1
      have c0 := ((unhide HBel).cell (p := ⟨b, off + k * 2, none⟩) hbB).trans (hr k _ hx).1
      have c1 := ((unhide HBel).cell (p := ⟨b, off + k * 2 + 1, none⟩) hbB).trans (hr k _ hx).2
      simp only at c0 c1
      have HX := hide hx
      have HST : Hid ((es.take (k + 1)).flatMap itL = (es.take k).flatMap itL ++ itL (key, val)) := take_flat itL hx
      have hle := take_flat_le itL es (k + 1)
      rw [unhide HST, List.length_append] at hle
      clear hx hr HR
      have HC := hide (fun W hW => item_any B r k ((es.take k).flatMap itL) (key, val) W hW (by omega) (by omega))
      have HWA := hide ((unhide HW).below (below_alloc wr (.cells #[.string key, .string val] 58)))
      have HPA := hide ((unhide HBel).alloc (by have := (unhide HW).lt; have := (unhide HW).1; omega) (.cells #[.string key, .string val] 58))
      clear hle
      go_wp2_with (go_at_call 95; refine (unhide HC _ (unhide HWA)).mono ?_; rintro e w3 ⟨rfl, hw3, hp3⟩; have HW3 := hide hw3; have HP3 := hide ((unhide HPA).trans hp3.1); clear hw3 hp3)
      go_roundw
      case rel =>
        refine ⟨k + 1, by omega, by go_num, ?_, unhide HP3⟩
        rw [unhide HST]
        exact unhide HW3
      case measure => simp [intOf]; omega
    · obtain rfl : k = es.length := by omega
      go_wp2
      go_end0
      have := unhide HW
      rw [List.take_length] at this
      exact ⟨rfl, this, unhide HBel⟩

set_option maxRecDepth 10000 in
set_option maxHeartbeats 2000000 in
theorem eachK_any (B r : Nat) (a : Option Addr) (cap : Nat) (es : List Kd) (w : World) (h : Wr B w r 0 []) (hrow : Row kv w a es) (hlow : ∀ k, k < w.heap.size → k ≠ r → k < B) (hv : ∀ x ∈ es, 0 ≤ x.2 ∧ x.2 < 9223372036854775808) (hn : es.length ≤ 900000) (hl : (es.flatMap kdL).length ≤ 900000) :
    Calls Tryz.prog 97 #[.slice a es.length cap, .func (.func 98) #[.pointer (some ⟨r, 0, none⟩)] #[]] w fun e w' => e = .returned (.tuple #[]) ∧ Wr B w' r es.length (es.flatMap kdL) ∧ Below B w w' := by
  have HR := hide hrow
  have HW0 := hide h
  have HLOW := hide hlow
  clear hrow h hlow
  go_enter Tryz.func97, Tryz.ntmps97
  go_wp2
  go_loopw [8] (fun t wr => ∃ k : Nat, k ≤ es.length ∧ t = .int .i64 k ∧ Wr B wr r k ((es.take k).flatMap kdL) ∧ Below B w wr) (fun t _ => es.length - (intOf t).toNat)
  case atStart => exact ⟨0, Nat.zero_le _, rfl, unhide HW0, Below.refl _ _⟩
  case round =>
    obtain ⟨k, hk, rfl, hw, hbel⟩ := hrel
    have HW := hide hw
    have HBel := hide hbel
    clear hw hbel
    by_cases hlt : k < es.length
    · obtain ⟨b, off, rfl, hr⟩ := (unhide HR).at hlt
      obtain ⟨⟨key, val⟩, hx⟩ := get_some hlt
      have hbB : b < B := by
        have h1 := (hr k _ hx).1
        refine unhide HLOW b (World.block_lt_of_cell? _ _ h1) (fun e => ?_)
        subst e
        obtain ⟨_, v, hb, ho⟩ := unhide HW0
        obtain ⟨a, cap, e⟩ := ho.shape
        exact row_not_writer hb ⟨_, _, _, e⟩ (hr k _ hx).1
      have c0 := ((unhide HBel).cell (p := ⟨b, off + k * 2, none⟩) hbB).trans (hr k _ hx).1
      have c1 := ((unhide HBel).cell (p := ⟨b, off + k * 2 + 1, none⟩) hbB).trans (hr k _ hx).2
      simp only at c0 c1
      have HX := hide hx
      have HST : Hid ((es.take (k + 1)).flatMap kdL = (es.take k).flatMap kdL ++ kdL (key, val)) := take_flat kdL hx
      have hle := take_flat_le kdL es (k + 1)
      rw [unhide HST, List.length_append] at hle
      clear hx hr HR
      have HC := hide (fun W hW => kid_any B r k ((es.take k).flatMap kdL) (key, val) W hW (hv _ (List.mem_of_getElem? (unhide HX))) (by omega) (by omega))
      have HWA := hide ((unhide HW).below (below_alloc wr (.cells #[.string key, .int .i64 val] 76)))
      have HPA := hide ((unhide HBel).alloc (by have := (unhide HW).lt; have := (unhide HW).1; omega) (.cells #[.string key, .int .i64 val] 76))
      clear hle
      go_wp2_with (go_at_call 98; refine (unhide HC _ (unhide HWA)).mono ?_; rintro e w3 ⟨rfl, hw3, hp3⟩; have HW3 := hide hw3; have HP3 := hide ((unhide HPA).trans hp3.1); clear hw3 hp3)
      go_roundw
      case rel =>
        refine ⟨k + 1, by omega, by go_num, ?_, unhide HP3⟩
        rw [unhide HST]
        exact unhide HW3
      case measure => simp [intOf]; omega
    · obtain rfl : k = es.length := by omega
      go_wp2
      go_end0
      have := unhide HW
      rw [List.take_length] at this
      exact ⟨rfl, this, unhide HBel⟩
end Go.Proofs.YtdelobaiicoogaaGreatDoor.L6
