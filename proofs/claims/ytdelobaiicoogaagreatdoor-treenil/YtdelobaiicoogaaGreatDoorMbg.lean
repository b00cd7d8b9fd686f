/- Texts that the proof needs, one behind the other. -/
import Derived.Test.YtdelobaiicoogaaGreatDoorMbf
import Derived.Test.YtdelobaiicoogaaGreatDoorMbb
import Derived.BigQuiet
import Derived.Test.YtdelobaiicoogaaGreatDoorMas
import Derived.Test.YtdelobaiicoogaaGreatDoorMav
import Derived.Test.YtdelobaiicoogaaGreatDoorMax
import Derived.Test.YtdelobaiicoogaaGreatDoorMba
import Derived.Test.YtdelobaiicoogaaGreatDoorMab
import Derived.Test.YtdelobaiicoogaaGreatDoorMaa
import Derived.Test.YtdelobaiicoogaaGreatDoorCards
import Derived.Test.YtdelobaiicoogaaGreatDoorTie
import Derived.ShutString
import Derived.ChangeOld
import Derived.Below
import Derived.Deep.DeepHandedRow
import Derived.Lib.LaidTab
import Derived.Lib.SmallJoins
/- Put of a key that isn't there, into no tree or a tree of one leaf. -/
namespace Go.Proofs.YtdelobaiicoogaaGreatDoor
open Go.ChangeShapes Go.WideShapes Go.ChangeAt Go.RowKit
attribute [local go_sem] Oper.semAt_some
variable {p d : Nat} {h : Hp} {c : Nat} {F : List Nat}

/-- the items of a leaf as a call hands them on -/
def ItsAt (W : World) (its : List L6.It) (ai : Option Addr) (ci : Nat) : Prop := (its = [] ∧ ai = none ∧ ci = 0) ∨ ∃ b off, ai = some ⟨b, off, none⟩ ∧ L6.RowAt itV W b off its ∧ its.length ≤ ci
theorem ItsAt.grow {W W' : World} {its : List L6.It} {ai : Option Addr} {ci : Nat} (h : ItsAt W its ai ci) (hb : Below W.heap.size W W') : ItsAt W' its ai ci := by
  rcases h with h | ⟨b, off, e, hr, hc⟩
  · exact .inl h
  · exact .inr ⟨b, off, e, hr.grow hb, hc⟩
theorem ItsAt.row {W : World} {its : List L6.It} {ai : Option Addr} {ci : Nat} (h : ItsAt W its ai ci) : L6.Row itV W ai its := by
  rcases h with ⟨h, _⟩ | ⟨b, off, e, hr, hc⟩
  · exact .inl h
  · exact .inr ⟨b, off, e, hr⟩
theorem putI_nil (key val : ByteArray) : putI [] key val = [(key, val)] := by
  unfold putI
  simp
/-- what becomes of the items -/
theorem edit_any (its : List L6.It) (ai : Option Addr) (ci : Nat) (key val : ByteArray) (kc vc : Nat) (w : World) (hi : ItsAt w its ai ci) (hl : its.length ≤ 1100)
    (hk : w.cell? ⟨kc, 0, none⟩ = some (.string key)) (hv : w.cell? ⟨vc, 0, none⟩ = some (.string val)) :
    Calls Tryz.prog 46 #[.slice ai its.length ci, .pointer (some ⟨kc, 0, none⟩), .pointer (some ⟨vc, 0, none⟩)] w fun e w' => ∃ v, e = .returned v ∧ OwnI w.heap.size w' v (putI its key val) ∧ Below w.heap.size w w' := by
  rcases hi with ⟨rfl, rfl, rfl⟩ | ⟨b, off, rfl, hr, hc⟩
  · rw [putI_nil]
    exact edit_put0 key val kc vc w hk hv
  · exact edit_put its b off ci key val kc vc w hr hc hl hk hv

theorem below_drewN (w : World) (n : Nat) : Below w.heap.size w (w.drewN n) := by
  obtain ⟨h1, h2, h3, h4⟩ : (w.drewN n).heap = w.heap ∧ (w.drewN n).os = w.os ∧ (w.drewN n).tape = w.tape ∧ (w.drewN n).output = w.output := ⟨rfl, rfl, rfl, rfl⟩
  exact ⟨h2, h3, h4, by rw [h1]; exact Nat.le_refl _, fun k _ => by rw [h1]⟩
set_option maxHeartbeats 4000000 in
set_option maxRecDepth 20000 in
theorem put_go (r : Int) (its : List L6.It) (key val : ByteArray) (w : World) (H : IsHeap w p d h c F) (hI : L5.I64 r) (hheld : heldE h [r] = 0) (hke : key.toList.isEmpty = false) (hks : key.size ≤ 272) (hvs : val.size ≤ 160)
    (hits : its.length ≤ 1000) (hbare : h.bare) (hc : c ≤ 999990) (hfnd : (L6.findK (its.map (fun x => x.1)) key).2 = false) (ht : Tame (putI its key val)) (hok : (putR h ⟨true, putI its key val, []⟩).2.1 = 0)
    (hway : ∀ W, IsHeap W p d h c F → Calls Tryz.prog 42 #[.pointer (some ⟨p, 0, none⟩), .int .i64 r, .string key] W fun e W' => ∃ (ai ak : Option Addr) (ci ck : Nat), e = .returned (.tuple #[.slice none 0 0, .agg #[.bool true, .slice ai its.length ci, .slice ak 0 ck], .int .i64 0]) ∧ L6.Has W' ⟨true, its, []⟩ ai ak ∧ ItsAt W' its ai ci ∧ Below W.heap.size W W')
    (hus : ∀ (ai ak : Option Addr) (ci ck kc vc M B : Nat) (W : World), ItsAt W its ai ci → W.cell? ⟨kc, 0, none⟩ = some (.string key) → W.cell? ⟨vc, 0, none⟩ = some (.string val) → B ≤ W.heap.size → W.cell? ⟨M, 5, none⟩ = some (.slice none 0 0) → W.cell? ⟨M, 6, none⟩ = some (.bool true) → W.cell? ⟨M, 7, none⟩ = some (.slice ai its.length ci) → W.cell? ⟨M, 8, none⟩ = some (.slice ak 0 ck) → W.cell? ⟨M, 9, none⟩ = some (.func (.func 46) #[] #[.pointer (some ⟨kc, 0, none⟩), .pointer (some ⟨vc, 0, none⟩)]) → Calls Tryz.prog 149 #[.pointer (some ⟨M, 0, none⟩)] W fun e w' => PlanSaid W (Kp (putI its key val) B) e w') :
    Calls Tryz.prog 15 #[.pointer (some ⟨p, 0, none⟩), .int .i64 r, .string key, .string val] w fun e w' => e = .returned (.tuple #[.int .i64 (putR h ⟨true, putI its key val, []⟩).1, .int .i64 0]) ∧ HTurned w w' p d (putR h ⟨true, putI its key val, []⟩).2.2 (c + 2) F := by
  have b1 := below_then (below_alloc w (.cells #[.string key] 9)) (below_alloc (w.alloc (.cells #[.string key] 9)) (.cells #[.string val] 9))
  have b2 := below_then b1 (below_alloc ((w.alloc (.cells #[.string key] 9)).alloc (.cells #[.string val] 9)) (.cells #[.int .i64 r] 3))
  have hz1 : ((w.alloc (.cells #[.string key] 9)).alloc (.cells #[.string val] 9)).heap.size = w.heap.size + 2 := by rw [World.size_alloc, World.size_alloc]
  have hz2 : (((w.alloc (.cells #[.string key] 9)).alloc (.cells #[.string val] 9)).alloc (.cells #[.int .i64 r] 3)).heap.size = w.heap.size + 3 := by rw [World.size_alloc, hz1]
  have k0 : (((w.alloc (.cells #[.string key] 9)).alloc (.cells #[.string val] 9)).alloc (.cells #[.int .i64 r] 3)).cell? ⟨w.heap.size, 0, none⟩ = some (.string key) := cell_later _ (cell_later _ (cell_at _ _ _))
  have v0 : (((w.alloc (.cells #[.string key] 9)).alloc (.cells #[.string val] 9)).alloc (.cells #[.int .i64 r] 3)).cell? ⟨w.heap.size + 1, 0, none⟩ = some (.string val) := by
    have q := cell_later (.cells #[.int .i64 r] 3) (cell_at (w.alloc (.cells #[.string key] 9)) (.string val) 9)
    rw [World.size_alloc] at q
    exact q
  have r0 : (((w.alloc (.cells #[.string key] 9)).alloc (.cells #[.string val] 9)).alloc (.cells #[.int .i64 r] 3)).cell? ⟨w.heap.size + 1 + 1, 0, none⟩ = some (.int .i64 r) := by
    have q := cell_at ((w.alloc (.cells #[.string key] 9)).alloc (.cells #[.string val] 9)) (.int .i64 r) 3
    rw [World.size_alloc, World.size_alloc] at q
    exact q
  have HH0 := hide H
  have HH := hide (H.grow b2)
  have HB := hide b2
  have HZ := hide hz2
  have HI := hide hI
  have HE := hide hheld
  have hk2 : ¬ (272 : Int) < (key.size : Int) := by omega
  have hv2 : ¬ (160 : Int) < (val.size : Int) := by omega
  have HA := hide (And.intro hits (And.intro hbare (And.intro hc (And.intro hfnd (And.intro ht hok)))))
  have HW := hide hway
  have HUS := hide hus
  clear b1 b2 hz1 hz2 H hI hheld hits hbare hc hfnd ht hok hway hus hks hvs
  go_enter Tryz.func15, Tryz.ntmps15
  go_wp2_with fail
  refine (theld_one r _ _ (unhide HH) (unhide HI) r0).mono ?_
  rintro e w9 ⟨rfl, hw9⟩
  rw [hw9]
  clear hw9 w9
  rw [unhide HE]
  clear r0
  generalize (((w.alloc (.cells #[.string key] 9)).alloc (.cells #[.string val] 9)).alloc (.cells #[.int .i64 r] 3)) = w1 at *
  go_wp2_with fail
  refine (unhide HW w1 (unhide HH)).mono ?_
  rintro e w2 ⟨ai, ak, ci, ck, rfl, hn, hi, hb⟩
  have hb3 := below_alloc w2 (.cells #[.bool true, .slice ai its.length ci, .slice ak 0 ck] 38)
  have HN := hide (hn.grow hb3)
  have HIA := hide (hi.grow hb3)
  have HB3 := hide (below_then (below_then (unhide HB) hb) hb3)
  have k1 := ((below_then hb hb3).cell (World.block_lt_of_cell? _ _ k0)).trans k0
  have v1 := ((below_then hb hb3).cell (World.block_lt_of_cell? _ _ v0)).trans v0
  have HX := hide (heap_alloc_new w2 (.cells #[.bool true, .slice ai its.length ci, .slice ak 0 ck] 38))
  have k2 := (hb.cell (World.block_lt_of_cell? _ _ k0)).trans k0
  clear hn hi hb hb3 k0 v0 HW
  go_wp2_with fail
  have hf : (L6.findK (L6.keysN ⟨true, its, []⟩) key).2 = false := (unhide HA).2.2.2.1
  refine (L6.find_any ⟨true, its, []⟩ ai ak ci ck key _ (unhide HN) (by have := (unhide HA).1; simp only; omega) (by simp)).mono ?_
  rintro e w5 ⟨rfl, hb⟩
  rw [hf]
  obtain ⟨N, hN⟩ : ∃ x : Int, x = ((L6.findK (L6.keysN ⟨true, its, []⟩) key).1 : Int) := ⟨_, rfl⟩
  rw [← hN]
  clear hN hf
  have HB5 := hide (below_then (unhide HB3) hb)
  have HI5 := hide ((unhide HIA).grow hb)
  have hx := (hb.block w2.heap.size (by rw [World.size_alloc]; omega)).trans (unhide HX)
  obtain ⟨xc, _⟩ := blk_facts hx
  have x0 := xc 0 _ rfl
  have x1 := xc 1 _ rfl
  have x2 := xc 2 _ rfl
  have k5 := (hb.cell (World.block_lt_of_cell? _ _ k1)).trans k1
  have v5 := (hb.cell (World.block_lt_of_cell? _ _ v1)).trans v1
  clear hb hx xc HN HIA HX HB3 k1 v1 k2
  have hmf : ∀ (fn : Fn) (first cap : Array Value) (w : World), (Instr.makeFunc fn first cap).run Tryz.prog w = .ok (.func fn first cap) w := fun _ _ _ _ => rfl
  go_wp2_with fail
  go_quiet (fail)
  go_wp2_with fail
  have hbd : Below w.heap.size w (w5.drewN nq) := below_then (unhide HB5) (below_drewN w5 nq)
  have hbz : Below w5.heap.size w5 (w5.drewN nq) := below_drewN w5 nq
  have hC := changed_leaf r its (putI its key val) ai ak ci ck w.heap.size (w.heap.size + 1) (w5.drewN nq) ((unhide HH0).grow hbd) (unhide HA).2.2.2.2.1.1 (unhide HA).2.1 (unhide HA).2.2.1 (unhide HA).2.2.2.2.2
    (fun M B W hW hB m5 m6 m7 m8 m9 => unhide HUS ai ak ci ck w.heap.size (w.heap.size + 1) M B W (((unhide HI5).grow hbz).grow hW) (((below_then hbz hW).cell (World.block_lt_of_cell? _ _ k5)).trans k5) (((below_then hbz hW).cell (World.block_lt_of_cell? _ _ v5)).trans v5) hB m5 m6 m7 m8 m9)
  have HC := hide hC
  have HBD := hide hbd
  clear hC hbd hbz
  refine (unhide HC).mono ?_
  rintro e w6 ⟨rfl, ht⟩
  have HT := hide ht
  clear ht HC
  go_wp2
  go_ret2
  exact ⟨rfl, HTurned.then (L5.Moves.of_below _ (unhide HBD)) (fun x hx => .inl hx) (unhide HT)⟩
end Go.Proofs.YtdelobaiicoogaaGreatDoor

/- Plain mathematics of a heap: a node that is put is read again; Put where all is well. -/
namespace Go.Proofs.YtdelobaiicoogaaGreatDoor

theorem decode_encode {n : L6.Nd} (he : (L6.encodeN n).2 = 0) : L6.decodeN (L6.encodeN n).1 = (n, 0) := by
  obtain ⟨h1, h2⟩ := enc_ok he
  have hr := L6.checkN_right h1
  have hz := enc_size he
  have hb : L6.bn (L6.encodeN n).1 = L6.ndL n := by
    rw [h2]
    exact L6.bn_strOf _ (L6.ndL_lt n)
  obtain ⟨_, _, L1, e, _⟩ := L6.read_right hb hr hz
  unfold L6.decodeN
  rw [e]
  rw [if_pos ⟨hz, by show L6.encodeN n = _; rw [h2]⟩]
theorem sector_ok {n : L6.Nd} {g : Int} (he : (L6.encodeN n).2 = 0) (g0 : 0 ≤ g) (g1 : g ≤ 1152921504606846976) : sectorN g n = L4.strOf (L4.Blk.sector (kindN n) g.toNat (L4.bn (L6.encodeN n).1)) := by
  unfold sectorN
  have hk := kindN_le n
  rw [L4.wrapR_ok (by omega) (by have := enc_size he; omega)]
  rfl
theorem sector_size {n : L6.Nd} {g : Int} (he : (L6.encodeN n).2 = 0) (g0 : 0 ≤ g) (g1 : g ≤ 1152921504606846976) : (sectorN g n).size = 1024 := by
  rw [sector_ok he g0 g1, L4.strOf_size, L4.Blk.sector_length _ _ _ (by rw [L4.bn_length]; exact enc_size he)]
/-- what was put is read -/
theorem nodeOf_sector {n : L6.Nd} {g : Int} (he : (L6.encodeN n).2 = 0) (g0 : 0 ≤ g) (g1 : g ≤ 1152921504606846976) : nodeOf (sectorN g n) = (n, g, 0) := by
  have ho : L4.openR (sectorN g n) = (((kindN n : Nat) : Int), g, (L6.encodeN n).1, 0) := by
    rw [sector_ok he g0 g1, L4.open_wrap (kindN_le n) (by omega) (enc_size he), Int.toNat_of_nonneg g0]
  unfold nodeOf
  rw [ho]
  simp only [decode_encode he]
  simp
/-- a disk whose power stays -/
def Lit (m : L3.Dk) : Prop := m.gone = false ∧ m.left = -1
theorem write_lit {m : L3.Dk} (hl : Lit m) {q : Int} {S : ByteArray} (h0 : 0 ≤ q) (h1 : q < (m.old.length : Int)) (hS : S.size = 1024) : L3.writeE m q S = 0 ∧ L3.writeM m q S = { m with op := m.op ++ [(q.toNat, S)] } := by
  obtain ⟨hg, hl⟩ := hl
  have e1 : ¬ m.gone = true := by rw [hg]; decide
  have e2 : ¬ m.left = 0 := by rw [hl]; decide
  have e3 : ¬ (q < 0 ∨ (m.old.length : Int) ≤ q) := by omega
  constructor
  · unfold L3.writeE
    rw [if_neg e1, if_neg e2, if_neg e3, if_neg (by omega)]
  · unfold L3.writeM
    rw [if_neg e1, if_neg e2, if_neg e3, if_neg (by omega)]
    have : L3.spent m.left = m.left := by rw [hl]; rfl
    rw [this]
theorem read_lit {m : L3.Dk} (hl : Lit m) {q : Int} (h0 : 0 ≤ q) (h1 : q < (m.old.length : Int)) : L3.readM m q = ((L3.lastW m.op q.toNat).getD (m.old.getD q.toNat ByteArray.empty), 0) := by
  unfold L3.readM
  rw [if_neg (by rw [hl.1]; decide), if_neg (by omega)]
theorem read_write {m : L3.Dk} (hl : Lit m) {q x : Int} {S : ByteArray} (h0 : 0 ≤ q) (h1 : q < (m.old.length : Int)) (hx : 0 ≤ x) (hx1 : x < (m.old.length : Int)) :
    L3.readM { m with op := m.op ++ [(q.toNat, S)] } x = if x = q then (S, 0) else L3.readM m x := by
  have hl' : Lit { m with op := m.op ++ [(q.toNat, S)] } := hl
  rw [read_lit hl' hx hx1, read_lit hl hx hx1]
  simp only
  rw [L3.lastW_snoc]
  by_cases e : x = q
  · subst e
    simp
  · rw [if_neg e, if_neg (by simp; omega)]
/-- Put where all is well -/
theorem put_ok {h : Hp} {n : L6.Nd} {i : Nat} (he : (L6.encodeN n).2 = 0) (hm : mayE h.al (places n) = 0) (hi : L5.takeI h.al = some i) (hl : Lit h.dk) (hlen : 2 + h.al.length = h.dk.old.length) (g0 : 0 ≤ h.gen) (g1 : h.gen ≤ 1152921504606846976) :
    putR h n = ((2 : Int) + (i : Int), 0, { dk := { h.dk with op := h.dk.op ++ [(2 + i, sectorN h.gen n)] }, al := holdAll (L5.upd 2 h.al ((2 : Int) + (i : Int)) (some (1, h.gen))) (places n), gen := h.gen, kids := setK h.kids (2 + i) (places n) }) := by
  obtain ⟨hin, hs, ht⟩ := take_at hi h.gen
  have hin' := hin
  unfold L5.In at hin'
  obtain ⟨hw1, hw2⟩ := write_lit hl (q := (2 : Int) + (i : Int)) (S := sectorN h.gen n) (by omega) (by omega) (sector_size he g0 g1)
  have hst : storeR h (sectorN h.gen n) = ((2 : Int) + (i : Int), 0, { h with dk := L3.writeM h.dk ((2 : Int) + (i : Int)) (sectorN h.gen n), al := L5.takeM h.al h.gen }) := by
    have hte : L5.takeE h.al = 0 := by unfold L5.takeE; rw [hi]
    have htn : L5.takeN 2 h.al = (2 : Int) + (i : Int) := by unfold L5.takeN; rw [hi]; rfl
    unfold storeR
    rw [if_neg (fun hn => hn hte), htn, if_neg (fun hn => hn hw1)]
  have e : ((2 : Int) + (i : Int)).toNat = 2 + i := by omega
  unfold putR
  rw [if_neg (fun hn => hn he), if_neg (fun hn => hn hm), hst]
  simp only [ne_eq, not_true_eq_false, if_false, hw2, ht, e]
end Go.Proofs.YtdelobaiicoogaaGreatDoor

/- The document's example: awake; a nil heap. -/
namespace Go.Proofs.YtdelobaiicoogaaGreatDoor
open Go.ChangeShapes Go.WideShapes Go.ChangeAt Go.RowKit

def aw0 : Hp := newH (L3.newM 8) 1
def aw1 : Hp := { dk := { aw0.dk with op := aw0.dk.op ++ [(2, sectorN 1 (leafN 1))] }, al := [some (1, 1), none, none, none, none, none], gen := 1, kids := fun _ => [] }
def aw2 : Hp := { dk := { aw1.dk with op := aw1.dk.op ++ [(3, sectorN 1 (innerN [2]))] }, al := [some (2, 1), some (1, 1), none, none, none, none], gen := 1, kids := setK (fun _ => []) 3 [2] }
theorem enc_leaf1 : (L6.encodeN (leafN 1)).2 = 0 := by kernel_rfl
theorem enc_inner2 : (L6.encodeN (innerN [2])).2 = 0 := by kernel_rfl
theorem aw_put1 : putR aw0 (leafN 1) = (2, 0, aw1) := by
  rw [put_ok (i := 0) enc_leaf1 (by decide) (by decide) ⟨rfl, rfl⟩ (by decide) (by decide) (by decide)]
  have e : setK aw0.kids (2 + 0) (places (leafN 1)) = fun _ => [] := by
    funext i
    unfold setK
    split <;> rfl
  rw [e]
  rfl
theorem aw_put2 : putR aw1 (innerN [2]) = (3, 0, aw2) := by
  rw [put_ok (i := 1) enc_inner2 (by decide) (by decide) ⟨rfl, rfl⟩ (by decide) (by decide) (by decide)]
  rfl
theorem aw_get : getR aw2 3 = (innerN [2], 0) := by
  unfold getR
  rw [if_neg (by decide)]
  have hr : L3.readM aw2.dk 3 = (sectorN 1 (innerN [2]), 0) := by
    have := read_write (m := aw1.dk) ⟨rfl, rfl⟩ (q := 3) (x := 3) (S := sectorN 1 (innerN [2])) (by decide) (by decide) (by decide) (by decide)
    rw [if_pos rfl] at this
    exact this
  unfold fetchM
  rw [hr]
  have hn := nodeOf_sector (n := innerN [2]) (g := 1) enc_inner2 (by decide) (by decide)
  simp only [ne_eq, not_true_eq_false, if_false, hn]
theorem aw_bare0 : aw0.bare := fun _ _ => rfl
theorem aw_bare1 : aw1.bare := fun _ _ => rfl

/-- nothing that was there has turned: F is new -/
theorem turned_below {w0 w w' : World} {p d : Nat} {h : Hp} {c : Nat} {F : List Nat} (h0 : Below w0.heap.size w0 w) (k : HTurned w w' p d h c F) (hF : ∀ x ∈ F, w0.heap.size ≤ x) : ∃ F', IsHeap w' p d h c F' ∧ Below w0.heap.size w0 w' ∧ ∀ x ∈ F', w0.heap.size ≤ x := by
  have hb := k.below h0 hF h0.size
  obtain ⟨F', k1, k2, k3⟩ := k
  refine ⟨F', k1, hb, fun x hx => ?_⟩
  rcases k3 x hx with h1 | h1
  · exact hF x h1
  · exact Nat.le_trans h0.size h1
end Go.Proofs.YtdelobaiicoogaaGreatDoor

/- The document's example: a put, b put, both are there. -/
namespace Go.Proofs.YtdelobaiicoogaaGreatDoor
open Go.ChangeShapes Go.WideShapes Go.ChangeAt Go.RowKit
attribute [local go_sem] Oper.semAt_some
variable {p d : Nat} {h : Hp} {c : Nat} {F : List Nat}

/-- what usual answers of a leaf -/
def UsualOk : Prop := ∀ (M B kc vc : Nat) (its l' : List L6.It) (ai ak : Option Addr) (ci ck : Nat) (w : World), w.cell? ⟨M, 5, none⟩ = some (.slice none 0 0) → w.cell? ⟨M, 6, none⟩ = some (.bool true) → w.cell? ⟨M, 7, none⟩ = some (.slice ai its.length ci) → w.cell? ⟨M, 8, none⟩ = some (.slice ak 0 ck) →
    w.cell? ⟨M, 9, none⟩ = some (.func (.func 46) #[] #[.pointer (some ⟨kc, 0, none⟩), .pointer (some ⟨vc, 0, none⟩)]) → L6.Row itV w ai its → its.length ≤ 1100 → Tame l' → lsz l' ≤ 1007 → l' ≠ [] → B ≤ w.heap.size →
    (∀ W, Below w.heap.size w W → Calls Tryz.prog 46 #[.slice ai its.length ci, .pointer (some ⟨kc, 0, none⟩), .pointer (some ⟨vc, 0, none⟩)] W fun e W' => ∃ v, e = .returned v ∧ OwnI W.heap.size W' v l' ∧ Below W.heap.size W W') →
    Calls Tryz.prog 149 #[.pointer (some ⟨M, 0, none⟩)] w fun e w' => PlanSaid w (Kp l' B) e w'
/-- Put of a key that isn't in a tree of one leaf, or of none -/
theorem put_new (U : UsualOk) (r : Int) (its : List L6.It) (key val : ByteArray) (w : World) (H : IsHeap w p d h c F) (hI : L5.I64 r) (hheld : heldE h [r] = 0) (hke : key.toList.isEmpty = false) (hks : key.size ≤ 272) (hvs : val.size ≤ 160)
    (hits : its.length ≤ 1000) (hbare : h.bare) (hc : c ≤ 999990) (hfnd : (L6.findK (its.map (fun x => x.1)) key).2 = false) (ht : Tame (putI its key val)) (hs : lsz (putI its key val) ≤ 1007) (hne : putI its key val ≠ []) (hok : (putR h ⟨true, putI its key val, []⟩).2.1 = 0)
    (hway : ∀ W, IsHeap W p d h c F → Calls Tryz.prog 42 #[.pointer (some ⟨p, 0, none⟩), .int .i64 r, .string key] W fun e W' => ∃ (ai ak : Option Addr) (ci ck : Nat), e = .returned (.tuple #[.slice none 0 0, .agg #[.bool true, .slice ai its.length ci, .slice ak 0 ck], .int .i64 0]) ∧ L6.Has W' ⟨true, its, []⟩ ai ak ∧ ItsAt W' its ai ci ∧ Below W.heap.size W W') :
    Calls Tryz.prog 15 #[.pointer (some ⟨p, 0, none⟩), .int .i64 r, .string key, .string val] w fun e w' => e = .returned (.tuple #[.int .i64 (putR h ⟨true, putI its key val, []⟩).1, .int .i64 0]) ∧ HTurned w w' p d (putR h ⟨true, putI its key val, []⟩).2.2 (c + 2) F :=
  put_go r its key val w H hI hheld hke hks hvs hits hbare hc hfnd ht hok hway
    (fun ai ak ci ck kc vc M B W hi hk hv hB m5 m6 m7 m8 m9 => U M B kc vc its _ ai ak ci ck W m5 m6 m7 m8 m9 hi.row (by omega) ht hs hne hB
      (fun W' hW => edit_any its ai ci key val kc vc W' (hi.grow hW) (by omega) ((hW.cell (World.block_lt_of_cell? _ _ hk)).trans hk) ((hW.cell (World.block_lt_of_cell? _ _ hv)).trans hv)))
theorem way_none (key : ByteArray) (W : World) (p : Nat) : Calls Tryz.prog 42 #[.pointer (some ⟨p, 0, none⟩), .int .i64 0, .string key] W fun e W' => ∃ (ai ak : Option Addr) (ci ck : Nat), e = .returned (.tuple #[.slice none 0 0, .agg #[.bool true, .slice ai (([] : List L6.It).length) ci, .slice ak 0 ck], .int .i64 0]) ∧ L6.Has W' ⟨true, [], []⟩ ai ak ∧ ItsAt W' [] ai ci ∧ Below W.heap.size W W' := by
  refine (wayTo_none _ key W).mono ?_
  rintro e W' ⟨rfl, hb⟩
  exact ⟨none, none, 0, 0, rfl, ⟨.inl rfl, .inl rfl⟩, .inl ⟨rfl, rfl, rfl⟩, hb⟩
theorem way_leaf (x : Nat) (hx : x < 4096) (hx0 : x ≠ 0) (key : ByteArray) (its : List L6.It) (hne : its ≠ []) (W : World) (H : IsHeap W p d h c F) (hget : getR h (x : Int) = (⟨true, its, []⟩, 0)) :
    Calls Tryz.prog 42 #[.pointer (some ⟨p, 0, none⟩), .int .i64 (x : Int), .string key] W fun e W' => ∃ (ai ak : Option Addr) (ci ck : Nat), e = .returned (.tuple #[.slice none 0 0, .agg #[.bool true, .slice ai its.length ci, .slice ak 0 ck], .int .i64 0]) ∧ L6.Has W' ⟨true, its, []⟩ ai ak ∧ ItsAt W' its ai ci ∧ Below W.heap.size W W' := by
  refine (wayTo_leaf x hx hx0 key its W H hget).mono ?_
  rintro e W' ⟨ai, ak, ci, ck, rfl, hh, hl, hb⟩
  refine ⟨ai, ak, ci, ck, rfl, hh, ?_, hb⟩
  rcases hh.1 with h | ⟨b, off, e, hr⟩
  · exact absurd h hne
  · exact .inr ⟨b, off, e, hr, hl⟩

def ka : ByteArray := ⟨#[97]⟩
def kb : ByteArray := ⟨#[98]⟩
def v1 : ByteArray := ⟨#[49]⟩
def v2 : ByteArray := ⟨#[50]⟩
def one : L6.Nd := ⟨true, [(ka, v1)], []⟩
def two : L6.Nd := ⟨true, [(ka, v1), (kb, v2)], []⟩
def ta0 : Hp := newH (L3.newM 16) 1
def ta1 : Hp := { dk := { ta0.dk with op := ta0.dk.op ++ [(2, sectorN 1 one)] }, al := some (1, 1) :: List.replicate 13 none, gen := 1, kids := fun _ => [] }
def ta2 : Hp := { dk := { ta1.dk with op := ta1.dk.op ++ [(3, sectorN 1 two)] }, al := some (1, 1) :: some (1, 1) :: List.replicate 12 none, gen := 1, kids := fun _ => [] }
theorem enc_one : (L6.encodeN one).2 = 0 := by kernel_rfl
theorem enc_two : (L6.encodeN two).2 = 0 := by kernel_rfl
theorem ta_put1 : putR ta0 one = (2, 0, ta1) := by
  rw [put_ok (i := 0) enc_one (by decide) (by decide) ⟨rfl, rfl⟩ (by decide) (by decide) (by decide)]
  have e : setK ta0.kids (2 + 0) (places one) = fun _ => [] := by
    funext i
    unfold setK
    split <;> rfl
  rw [e]
  rfl
theorem ta_put2 : putR ta1 two = (3, 0, ta2) := by
  rw [put_ok (i := 1) enc_two (by decide) (by decide) ⟨rfl, rfl⟩ (by decide) (by decide) (by decide)]
  have e : setK ta1.kids (2 + 1) (places two) = fun _ => [] := by
    funext i
    unfold setK
    split <;> rfl
  rw [e]
  rfl
theorem ta_get1 : getR ta1 ((2 : Nat) : Int) = (one, 0) := by
  unfold getR
  rw [if_neg (by decide)]
  have hr : L3.readM ta1.dk 2 = (sectorN 1 one, 0) := by
    have := read_write (m := ta0.dk) ⟨rfl, rfl⟩ (q := 2) (x := 2) (S := sectorN 1 one) (by decide) (by decide) (by decide) (by decide)
    rw [if_pos rfl] at this
    exact this
  unfold fetchM
  rw [show ((2 : Nat) : Int) = 2 from rfl, hr]
  have hn := nodeOf_sector (n := one) (g := 1) enc_one (by decide) (by decide)
  simp only [ne_eq, not_true_eq_false, if_false, hn]
theorem ta_get2 : getR ta2 ((3 : Nat) : Int) = (two, 0) := by
  unfold getR
  rw [if_neg (by decide)]
  have hr : L3.readM ta2.dk 3 = (sectorN 1 two, 0) := by
    have := read_write (m := ta1.dk) ⟨rfl, rfl⟩ (q := 3) (x := 3) (S := sectorN 1 two) (by decide) (by decide) (by decide) (by decide)
    rw [if_pos rfl] at this
    exact this
  unfold fetchM
  rw [show ((3 : Nat) : Int) = 3 from rfl, hr]
  have hn := nodeOf_sector (n := two) (g := 1) enc_two (by decide) (by decide)
  simp only [ne_eq, not_true_eq_false, if_false, hn]
theorem ta_bare0 : ta0.bare := fun _ _ => rfl
theorem ta_bare1 : ta1.bare := fun _ _ => rfl
theorem ta_cnt1 : ta1.cnt ((2 : Nat) : Int) ≠ 0 := by decide
theorem ta_cnt2 : ta2.cnt ((3 : Nat) : Int) ≠ 0 := by decide
theorem ta_items1 : putI [] ka v1 = one.its := putI_nil _ _
theorem ta_items2 : putI one.its kb v2 = two.its := by kernel_rfl
theorem ta_range : (leafR two.its ⟨#[]⟩ ⟨#[]⟩).take 9 = two.its := by kernel_rfl
theorem tame_one : Tame one.its := ⟨by decide, by intro x hx; simp [one] at hx; subst hx; decide⟩
theorem tame_two : Tame two.its := ⟨by decide, by intro x hx; simp [two] at hx; rcases hx with rfl | rfl <;> decide⟩
theorem lsz_one : lsz one.its ≤ 1007 := by decide
theorem lsz_two : lsz two.its ≤ 1007 := by decide
end Go.Proofs.YtdelobaiicoogaaGreatDoor

/- awake; the law of a nil heap and of free roots. -/
namespace Go.Proofs.YtdelobaiicoogaaGreatDoor
open Go.ChangeShapes Go.WideShapes Go.ChangeAt Go.RowKit
attribute [local go_sem] Oper.semAt_some
variable {p d : Nat} {h : Hp} {c : Nat} {F : List Nat}

theorem put_one (U : UsualOk) (w : World) (H : IsHeap w p d ta0 c F) (hc : c ≤ 100) : Calls Tryz.prog 15 #[.pointer (some ⟨p, 0, none⟩), .int .i64 0, .string ⟨#[97]⟩, .string ⟨#[49]⟩] w fun e w' => e = .returned (.tuple #[.int .i64 2, .int .i64 0]) ∧ HTurned w w' p d ta1 (c + 2) F := by
  have h1 : putR ta0 ⟨true, putI [] ka v1, []⟩ = (2, 0, ta1) := by
    rw [ta_items1]
    exact ta_put1
  have hq := put_new (p := p) (d := d) (F := F) U 0 [] ka v1 w H (by unfold L5.I64; omega) heldE_zero (by kernel_rfl) (by decide) (by decide) (by decide) ta_bare0 (by omega) (by kernel_rfl) (by rw [ta_items1]; exact tame_one) (by rw [ta_items1]; exact lsz_one) (by rw [ta_items1]; decide) (by rw [h1]) (fun W _ => way_none ka W p)
  rw [h1] at hq
  exact hq
theorem put_two (U : UsualOk) (w : World) (H : IsHeap w p d ta1 c F) (hc : c ≤ 100) : Calls Tryz.prog 15 #[.pointer (some ⟨p, 0, none⟩), .int .i64 2, .string ⟨#[98]⟩, .string ⟨#[50]⟩] w fun e w' => e = .returned (.tuple #[.int .i64 3, .int .i64 0]) ∧ HTurned w w' p d ta2 (c + 2) F := by
  have h1 : putR ta1 ⟨true, putI one.its kb v2, []⟩ = (3, 0, ta2) := by
    rw [ta_items2]
    exact ta_put2
  have hq := put_new (p := p) (d := d) (F := F) U ((2 : Nat) : Int) one.its kb v2 w H (by unfold L5.I64; omega) (heldE_is ta_cnt1) (by kernel_rfl) (by decide) (by decide) (by decide) ta_bare1 (by omega) (by kernel_rfl) (by rw [ta_items2]; exact tame_two) (by rw [ta_items2]; exact lsz_two) (by rw [ta_items2]; decide) (by rw [h1]) (fun W hW => way_leaf 2 (by decide) (by decide) kb one.its (by decide) W hW ta_get1)
  rw [h1] at hq
  exact hq
theorem range_two (w : World) (H : IsHeap w p d ta2 c F) : Calls Tryz.prog 17 #[.pointer (some ⟨p, 0, none⟩), .int .i64 3, .string ⟨#[]⟩, .string ⟨#[]⟩, .int .i64 9] w fun e w' => ∃ g cap, e = .returned (.tuple #[.slice (some ⟨g, 0, none⟩) 2 cap, .int .i64 0]) ∧ w'.cell? ⟨g, 0, none⟩ = some (.string ⟨#[97]⟩) ∧ w'.cell? ⟨g, 3, none⟩ = some (.string ⟨#[50]⟩) ∧ Below w.heap.size w w' := by
  have hq := range_leaf (p := p) (d := d) (c := c) (F := F) 3 (by decide) (by decide) ⟨#[]⟩ ⟨#[]⟩ 9 (by decide) (by decide) two.its w H ta_get2 ta_cnt2 (by decide) (by decide)
  rw [ta_range] at hq
  refine Calls.mono hq ?_
  rintro e w' ⟨v, rfl, ho, hb⟩
  have ho' : w'.ownsRow w.heap.size 58 2 v 2 (L6.pairs itV two.its) := ho
  rcases ho'.2 with ⟨_, hn⟩ | ⟨g, cap, cur, rfl, _⟩
  · exact absurd hn (by decide)
  · exact ⟨g, cap, rfl, World.ownsRow.cellAt ho' 0 (by decide), World.ownsRow.cellAt ho' 3 (by decide), hb⟩

set_option maxHeartbeats 2000000 in
set_option maxRecDepth 20000 in
theorem tawake_any (U : UsualOk) (w : World) (hT : L4.Tab w) : Calls Tryz.prog 5 #[] w fun e w' => e = .returned (.bool true) ∧ Below w.heap.size w w' := by
  have HT := hide hT
  have HB := hide (tbegun_ok 16 w hT (by decide) (by decide))
  clear hT
  go_enter Tryz.func5, Tryz.ntmps5
  go_wp2_with fail
  refine (unhide HB).mono ?_
  rintro e w1 ⟨p, d, F, rfl, H, hb1, hF⟩
  have HP := hide (put_one (p := p) (d := d) (F := F) U w1 H (by decide))
  have HX := hide (And.intro hb1 hF)
  clear H hb1 hF HB
  go_wp2_with fail
  refine (unhide HP).mono ?_
  rintro e w2 ⟨rfl, ht⟩
  obtain ⟨F2, H2, hb2, hF2⟩ := turned_below (unhide HX).1 ht (unhide HX).2
  have HP2 := hide (put_two (p := p) (d := d) (F := F2) U w2 H2 (by decide))
  have HX2 := hide (And.intro hb2 hF2)
  clear ht H2 hb2 hF2 HP HX
  go_wp2_with fail
  refine (unhide HP2).mono ?_
  rintro e w3 ⟨rfl, ht⟩
  obtain ⟨F3, H3, hb3, hF3⟩ := turned_below (unhide HX2).1 ht (unhide HX2).2
  have HR := hide (range_two (p := p) (d := d) (F := F3) w3 H3)
  have HB3 := hide hb3
  clear ht H3 hb3 hF3 HP2 HX2
  go_wp2_with fail
  refine (unhide HR).mono ?_
  rintro e w4 ⟨g, cap, rfl, c0, c3, hb⟩
  have HB4 := hide (below_then (unhide HB3) hb)
  clear hb
  go_wp2
  go_ret
  exact ⟨rfl, unhide HB4⟩
end Go.Proofs.YtdelobaiicoogaaGreatDoor

/- The law TreeNil: of a nil heap, and of roots that nobody holds, all calls answer so. -/
namespace Go.Proofs.YtdelobaiicoogaaGreatDoor
open Go.ChangeShapes Go.WideShapes Go.ChangeAt Go.RowKit
attribute [local go_sem] Oper.semAt_some

theorem free_new (n : Nat) (x : Int) : (newH (L3.newM n) 1).cnt x = 0 := by
  unfold Hp.cnt cntL newH L5.sec L5.newM
  simp only [List.getD_eq_getElem?_getD]
  split
  · rw [List.getElem?_replicate]
    split <;> rfl
  · rfl
set_option maxHeartbeats 2000000 in
set_option maxRecDepth 20000 in
theorem tnil_walk (U : UsualOk) (r : Int) (key : ByteArray) (w : World) (hT : L4.Tab w) (hI : L5.I64 r) : Calls Tryz.prog 4 #[.int .i64 r, .string key] w fun e w' => e = .returned (.bool true) ∧ Below w.heap.size w w' := by
  have HT := hide hT
  have HI := hide hI
  have HB0 := hide (tbegun_ok 9 w hT (by decide) (by decide))
  clear hT hI
  by_cases hr : r = 0
  · subst hr
    go_enter Tryz.func4, Tryz.ntmps4
    go_wp2_with fail
    refine (unhide HB0).mono ?_
    rintro e w1 ⟨p, d, F, rfl, H, hb1, _⟩
    have HH := hide H
    have HB := hide hb1
    clear H hb1
    go_wp2_with fail
    refine (tget_nil 0 key _).mono ?_
    rintro e w2 ⟨rfl, hb⟩
    have HB := hide (below_then (unhide HB) hb)
    have HH := hide ((unhide HH).grow hb)
    clear hb
    go_wp2_with fail
    refine (tput_nil 0 key _ _).mono ?_
    rintro e w2 ⟨rfl, hb⟩
    have HB := hide (below_then (unhide HB) hb)
    have HH := hide ((unhide HH).grow hb)
    clear hb
    go_wp2_with fail
    refine (tdel_nil 0 key _).mono ?_
    rintro e w2 ⟨rfl, hb⟩
    have HB := hide (below_then (unhide HB) hb)
    have HH := hide ((unhide HH).grow hb)
    clear hb
    go_wp2_with fail
    refine (trange_nil 0 _ key _ _).mono ?_
    rintro e w2 ⟨rfl, hb⟩
    have HB := hide (below_then (unhide HB) hb)
    have HH := hide ((unhide HH).grow hb)
    clear hb
    go_wp2_with fail
    refine (tdiff_nil 0 0 _).mono ?_
    rintro e w2 ⟨rfl, hb⟩
    have HB := hide (below_then (unhide HB) hb)
    have HH := hide ((unhide HH).grow hb)
    clear hb
    go_wp2_with fail
    refine (tawake_any U _ (tab_keep (unhide HT) (L5.Moves.of_below [] (unhide HB)) List.not_mem_nil)).mono ?_
    rintro e w2 ⟨rfl, hb⟩
    have HB := hide (below_then (unhide HB) hb)
    have HH := hide ((unhide HH).grow hb)
    clear hb
    go_wp2_with fail
    refine (tcheck_nil 0 _).mono ?_
    rintro e w2 ⟨rfl, hb⟩
    have HB := hide (below_then (unhide HB) hb)
    have HH := hide ((unhide HH).grow hb)
    clear hb
    go_wp2_with fail
    refine (tcheck_zero _ (unhide HH)).mono ?_
    rintro e w2 ⟨rfl, hb⟩
    have HB := hide (below_then (unhide HB) hb)
    have HH := hide ((unhide HH).grow hb)
    clear hb
    go_wp2
    go_ret
    exact ⟨rfl, unhide HB⟩
  · have hr1 : (r == 0) = false := beq_eq_false_iff_ne.2 hr
    go_enter Tryz.func4, Tryz.ntmps4
    go_wp2_with fail
    refine (unhide HB0).mono ?_
    rintro e w1 ⟨p, d, F, rfl, H, hb1, _⟩
    have HH := hide H
    have HB := hide hb1
    clear H hb1
    go_wp2_with fail
    refine (tget_nil r key _).mono ?_
    rintro e w2 ⟨rfl, hb⟩
    have HB := hide (below_then (unhide HB) hb)
    have HH := hide ((unhide HH).grow hb)
    clear hb
    go_wp2_with fail
    refine (tput_nil r key _ _).mono ?_
    rintro e w2 ⟨rfl, hb⟩
    have HB := hide (below_then (unhide HB) hb)
    have HH := hide ((unhide HH).grow hb)
    clear hb
    go_wp2_with fail
    refine (tdel_nil r key _).mono ?_
    rintro e w2 ⟨rfl, hb⟩
    have HB := hide (below_then (unhide HB) hb)
    have HH := hide ((unhide HH).grow hb)
    clear hb
    go_wp2_with fail
    refine (trange_nil r _ key _ _).mono ?_
    rintro e w2 ⟨rfl, hb⟩
    have HB := hide (below_then (unhide HB) hb)
    have HH := hide ((unhide HH).grow hb)
    clear hb
    go_wp2_with fail
    refine (tdiff_nil r r _).mono ?_
    rintro e w2 ⟨rfl, hb⟩
    have HB := hide (below_then (unhide HB) hb)
    have HH := hide ((unhide HH).grow hb)
    clear hb
    go_wp2_with fail
    refine (tawake_any U _ (tab_keep (unhide HT) (L5.Moves.of_below [] (unhide HB)) List.not_mem_nil)).mono ?_
    rintro e w2 ⟨rfl, hb⟩
    have HB := hide (below_then (unhide HB) hb)
    have HH := hide ((unhide HH).grow hb)
    clear hb
    go_wp2_with fail
    refine (tcheck_nil r _).mono ?_
    rintro e w2 ⟨rfl, hb⟩
    have HB := hide (below_then (unhide HB) hb)
    have HH := hide ((unhide HH).grow hb)
    clear hb
    go_wp2_with fail
    refine (tget_free r key _ (unhide HH) (unhide HI) hr (free_new 9 r)).mono ?_
    rintro e w2 ⟨rfl, hb⟩
    have HB := hide (below_then (unhide HB) hb)
    have HH := hide ((unhide HH).grow hb)
    clear hb
    go_wp2_with fail
    refine (tput_free r _ _ _ (unhide HH) (unhide HI) hr (free_new 9 r)).mono ?_
    rintro e w2 ⟨rfl, hb⟩
    have HB := hide (below_then (unhide HB) hb)
    have HH := hide ((unhide HH).grow hb)
    clear hb
    go_wp2_with fail
    refine (tdel_free r key _ (unhide HH) (unhide HI) hr (free_new 9 r)).mono ?_
    rintro e w2 ⟨rfl, hb⟩
    have HB := hide (below_then (unhide HB) hb)
    have HH := hide ((unhide HH).grow hb)
    clear hb
    go_wp2_with fail
    refine (trange_free r _ key _ _ (unhide HH) (unhide HI) hr (free_new 9 r)).mono ?_
    rintro e w2 ⟨rfl, hb⟩
    have HB := hide (below_then (unhide HB) hb)
    have HH := hide ((unhide HH).grow hb)
    clear hb
    go_wp2_with fail
    refine (tdiff_free r _ (unhide HH) (unhide HI) hr (free_new 9 r)).mono ?_
    rintro e w2 ⟨rfl, hb⟩
    have HB := hide (below_then (unhide HB) hb)
    have HH := hide ((unhide HH).grow hb)
    clear hb
    go_wp2_with fail
    refine (tcheck_free r _ (unhide HH) (unhide HI) hr (free_new 9 r)).mono ?_
    rintro e w2 ⟨rfl, hb⟩
    have HB := hide (below_then (unhide HB) hb)
    have HH := hide ((unhide HH).grow hb)
    clear hb
    go_wp2
    go_ret
    exact ⟨rfl, unhide HB⟩
end Go.Proofs.YtdelobaiicoogaaGreatDoor

/- What the rows' frames share: the tables that the rows list, a start that fits. -/
namespace Go.Proofs.YtdelobaiicoogaaGreatDoor
open Go.ChangeShapes Go.WideShapes Go.ChangeAt Go.RowKit

theorem i64_of {a : Int} (h : (Lit.int .i64 a).wf = true) : L5.I64 a := by
  have h2 : -9223372036854775808 ≤ a ∧ a ≤ 9223372036854775807 := by simpa [Lit.wf, IntKind.min, IntKind.max, IntKind.signed, IntKind.bits] using h
  exact h2
theorem ownKnobs : ownKnob Tryz.prog.godebug = none := by kernel_rfl
theorem laidOut : laidOutB Tryz.prog = true := by kernel_rfl
/-- the name of the table, as the rows give it -/
def tabName : String := Rows.treeNilRow.named.headD Rows.treeNilRow.func
theorem gTab : Tryz.prog.globalNamed tabName = some 0 := by kernel_rfl
theorem gTabType : (Tryz.prog.globals[0]?).map (·.type) = some 324 := by kernel_rfl
theorem cells238 : Tryz.prog.cellsOf 324 = 16 := by kernel_rfl
theorem cells169 : Tryz.prog.cellsOf 161 = 1 := by kernel_rfl
theorem table {W : World} (h : laidMetH Tryz.prog Rows.treeNilRow.laid W) : L4.Tab W := by
  have t : Lib.TabIs Tryz.prog W tabName .u32 (L4.Crc.tabN.map fun n : Nat => (n : Int)) :=
    Lib.tabIs_of_head (rest := Rows.treeNilRow.laid.tail) gTab gTabType Tryz.underlying324 Tryz.underlying161 cells169 cells238 h
  intro i hi
  have c := t.cell gTab i (by simpa [L4.Crc.tabN] using hi)
  rw [c]
  have e : ∀ j : Fin 16, (L4.Crc.tabN.map fun n : Nat => (n : Int)).getD j.val 0 = (L4.Crc.tab j.val : Int) := by decide
  rw [e ⟨i, hi⟩]


/-- the library's two tables, for a start that fits -/
def firstN : List Nat := List.replicate 128 240 ++ List.replicate 66 241 ++ List.replicate 30 2 ++ [19] ++ List.replicate 12 3 ++ [35] ++ List.replicate 2 3 ++ [52] ++ List.replicate 3 4 ++ [68] ++ List.replicate 11 241
def rangeN : List Nat := [128, 191, 160, 191, 128, 159, 144, 191, 128, 143] ++ List.replicate 22 0
end Go.Proofs.YtdelobaiicoogaaGreatDoor
