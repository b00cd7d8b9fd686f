/- A node is read, as the program reads it. -/
import Derived.Test.YtepkifledonldaaEntries
namespace Go.Proofs.Ytepkifledonldaa
open Go.ChangeShapes Go.WideShapes Go.ChangeAt Go.RowKit

/-- a node's block: a bool and two slices -/
def Nblk (w : World) (p : Nat) (L : Bool) (ai : Option Addr) (il ci : Nat) (ak : Option Addr) (kl ck : Nat) : Prop := w.heap[p]? = some (.cells #[.bool L, .slice ai il ci, .slice ak kl ck] 25 (0, 0))
variable {w w' : World} {p : Nat} {L : Bool} {ai ak : Option Addr} {il ci kl ck : Nat}
theorem Nblk.cell0 (h : Nblk w p L ai il ci ak kl ck) : w.cell? ⟨p, 0, none⟩ = some (.bool L) := by unfold Nblk at h; simp [World.cell?, h]
theorem Nblk.cell1 (h : Nblk w p L ai il ci ak kl ck) : w.cell? ⟨p, 1, none⟩ = some (.slice ai il ci) := by unfold Nblk at h; simp [World.cell?, h]
theorem Nblk.cell2 (h : Nblk w p L ai il ci ak kl ck) : w.cell? ⟨p, 2, none⟩ = some (.slice ak kl ck) := by unfold Nblk at h; simp [World.cell?, h]
theorem Nblk.free (h : Nblk w p L ai il ci ak kl ck) (j : Nat) : w.frozen? ⟨p, j, none⟩ = false := by unfold Nblk at h; simp [World.frozen?, h]
theorem Nblk.lt (h : Nblk w p L ai il ci ak kl ck) : p < w.heap.size := lt_of_block h
theorem Nblk.set0 (h : Nblk w p L ai il ci ak kl ck) (L' : Bool) : Nblk (w.setCell ⟨p, 0, none⟩ (.bool L')) p L' ai il ci ak kl ck := by unfold Nblk at *; simp [World.setCell, Array.getElem?_modify, h]
theorem Nblk.set1 (h : Nblk w p L ai il ci ak kl ck) (a : Option Addr) (n c : Nat) : Nblk (w.setCell ⟨p, 1, none⟩ (.slice a n c)) p L a n c ak kl ck := by unfold Nblk at *; simp [World.setCell, Array.getElem?_modify, h]
theorem Nblk.set2 (h : Nblk w p L ai il ci ak kl ck) (a : Option Addr) (n c : Nat) : Nblk (w.setCell ⟨p, 2, none⟩ (.slice a n c)) p L ai il ci a n c := by unfold Nblk at *; simp [World.setCell, Array.getElem?_modify, h]
theorem Nblk.new (w : World) (L : Bool) (ai ak : Option Addr) (il ci kl ck : Nat) : Nblk (w.alloc (.cells #[.bool L, .slice ai il ci, .slice ak kl ck] 25)) w.heap.size L ai il ci ak kl ck := heap_alloc_new w _
theorem Nblk.below (h : Nblk w p L ai il ci ak kl ck) (hb : Below w.heap.size w w') : Nblk w' p L ai il ci ak kl ck := (hb.block p h.lt).trans h
theorem Nblk.told {r e : Nat} {M : ByteArray} (h : Nblk w p L ai il ci ak kl ck) (ht : Told w w' r M e) (hp : p ≠ r) : Nblk w' p L ai il ci ak kl ck := (ht.1.block p h.lt (fun e => hp (Option.some.inj e))).trans h
/-- no text stands in a node's block -/
theorem Nblk.no (h : Nblk w p L ai il ci ak kl ck) (j : Nat) (s : ByteArray) : w.cell? ⟨p, j, none⟩ ≠ some (.string s) := by
  intro e
  rcases j with _ | _ | _ | j
  · rw [h.cell0] at e; simp at e
  · rw [h.cell1] at e; simp at e
  · rw [h.cell2] at e; simp at e
  · unfold Nblk at h
    simp [World.cell?, h] at e
theorem Row.set {β : Type} {sv : β → Value} {a : Option Addr} {l : List (ByteArray × β)} (h : Row sv w a l) (hp : Nblk w p L ai il ci ak kl ck) (j : Nat) (u : Value) : Row sv (w.setCell ⟨p, j, none⟩ u) a l := by
  rcases h with h | ⟨b, off, e, hh⟩
  · exact .inl h
  · refine .inr ⟨b, off, e, fun i x hx => ?_⟩
    obtain ⟨c0, c1⟩ := hh i x hx
    have hb : b ≠ p := fun e => by subst e; exact hp.no _ _ c0
    exact ⟨(World.cell?_setCell_other w ⟨p, j, none⟩ ⟨b, off + i * 2, none⟩ u (fun e => hb (by injection e with e1 _ _; exact e1.symm))).trans c0, (World.cell?_setCell_other w ⟨p, j, none⟩ ⟨b, off + i * 2 + 1, none⟩ u (fun e => hb (by injection e with e1 _ _; exact e1.symm))).trans c1⟩
theorem Has.set {n : Nd} {bi bk : Option Addr} (h : Has w n bi bk) (hp : Nblk w p L ai il ci ak kl ck) (j : Nat) (u : Value) : Has (w.setCell ⟨p, j, none⟩ u) n bi bk := ⟨h.1.set hp j u, h.2.set hp j u⟩
/-- a node is stored in a node's block -/
theorem Nblk.store (h : Nblk w p L ai il ci ak kl ck) (L' : Bool) (a : Option Addr) (n c : Nat) (a2 : Option Addr) (n2 c2 : Nat) {m : Nd} {bi bk : Option Addr} (hm : Has w m bi bk) :
    Nblk (((w.setCell ⟨p, 0, none⟩ (.bool L')).setCell ⟨p, 1, none⟩ (.slice a n c)).setCell ⟨p, 2, none⟩ (.slice a2 n2 c2)) p L' a n c a2 n2 c2 ∧ Has (((w.setCell ⟨p, 0, none⟩ (.bool L')).setCell ⟨p, 1, none⟩ (.slice a n c)).setCell ⟨p, 2, none⟩ (.slice a2 n2 c2)) m bi bk :=
  ⟨((h.set0 L').set1 a n c).set2 a2 n2 c2, ((hm.set h 0 _).set (h.set0 L') 1 _).set ((h.set0 L').set1 a n c) 2 _⟩

/-- THE DOCUMENT's: what bytes seem to be the bytes of -/
def readN (S : ByteArray) : Nd × ByteArray × Nat :=
  if (byteR S 0).1 = 1 then (⟨true, (countR itemR (byteR S 0).2.1 (byteR S 0).2.2).1, []⟩, (countR itemR (byteR S 0).2.1 (byteR S 0).2.2).2)
  else if (byteR S 0).1 = 2 then (⟨false, [], (countR kidR (byteR S 0).2.1 (byteR S 0).2.2).1⟩, (countR kidR (byteR S 0).2.1 (byteR S 0).2.2).2)
  else (⟨false, [], []⟩, (byteR S 0).2)
def ReadSaid (n : Nd) (w : World) (x : Ending) (w' : World) (r : Nat) : Prop := ∃ (ai ak : Option Addr) (ci ck : Nat), x = .returned (.agg #[.bool n.leaf, .slice ai n.its.length ci, .slice ak n.kds.length ck]) ∧ Has w' n ai ak ∧ w.grownBy w' (some r)
theorem grown_store {a b : World} {r : Option Nat} (h : a.grownBy b r) (p j : Nat) (u : Value) (hp : a.heap.size ≤ p) : a.grownBy (b.setCell ⟨p, j, none⟩ u) r :=
  ⟨h.os, h.tape, h.output, by have := h.size; simpa [World.setCell] using this, fun k hk hne => (Below.heap_setCell _ ⟨p, j, none⟩ _ _ (show k ≠ p by omega)).trans (h.block k hk hne)⟩

set_option maxRecDepth 10000 in
set_option maxHeartbeats 2000000 in
theorem read_node (r : Nat) (S : ByteArray) (w : World) (hr : Rd w r S 0) (hL : S.size ≤ 1000000) :
    Calls Try.prog 27 #[.pointer (some ⟨r, 0, none⟩)] w fun x w' => ReadSaid (readN S).1 w x w' r := by
  have hrl := hr.lt
  have hpr : w.heap.size ≠ r := by omega
  have hnew := Nblk.new w false none none 0 0 0 0
  have HC := hide (byte_any r 0 S _ (hr.alloc (.cells #[.bool false, .slice none 0 0, .slice none 0 0] 25)) hL)
  have hle := byteR_le S 0
  have HI := hide (fun W (hW : Rd W r (byteR S 0).2.1 (byteR S 0).2.2) => entriesI_any r _ _ W hW (by omega))
  have HK := hide (fun W (hW : Rd W r (byteR S 0).2.1 (byteR S 0).2.2) => entriesK_any r _ _ W hW (by omega))
  have HN := hide hnew
  unfold readN
  clear hr hnew hle
  generalize byteR S 0 = T at *
  by_cases h1 : T.1 = 1
  · have f1 : ((T.1 : Int) == 1) = true := beq_iff_eq.2 (by omega)
    rw [if_pos h1]
    clear h1 HK
    generalize countR itemR T.2.1 T.2.2 = U at *
    go_enter Try.func27, Try.ntmps27
    go_wp2_with fail
    refine (unhide HC).mono ?_
    rintro x w1 ⟨rfl, ht⟩
    have HP := hide ((unhide HN).told ht hpr)
    have HT := hide ht.boxed
    have HD := hide ht.2
    clear ht HC HN
    obtain ⟨p, hp⟩ : ∃ y, y = w.heap.size := ⟨_, rfl⟩
    rw [← hp] at HP hpr ⊢
    have hpw : w.heap.size ≤ p := Nat.le_of_eq hp.symm
    clear hp
    go_wp2_with fail
    refine (unhide HI _ (unhide HD)).mono ?_
    rintro x w2 ⟨a, cap, rfl, ho, ht⟩
    have hp2 := (unhide HP).told ht hpr
    have HG := hide (grown_trans (unhide HT).1 ht.1)
    have HO := hide ho.row
    have c0 := hp2.cell0
    have c1 := hp2.cell1
    have c2 := hp2.cell2
    have f0 := hp2.free 0
    have f1' := hp2.free 1
    have f2 := hp2.free 2
    have HP2 := hide hp2
    clear ho ht hp2
    go_wp2
    have hs := (unhide HP2).store true a U.1.length cap none 0 0 (m := ⟨true, U.1, []⟩) (bi := a) (bk := none) ⟨unhide HO, .inl rfl⟩
    refine bodyPost_ret (v := .agg #[.bool true, .slice a U.1.length cap, .slice none 0 0]) ?_ rfl ⟨a, none, cap, 0, rfl, hs.2, grown_store (grown_store (grown_store (unhide HG) p 0 _ hpw) p 1 _ hpw) p 2 _ hpw⟩
    rw [results_cell1 rfl]
    go_simp
  · have f1 : ((T.1 : Int) == 1) = false := beq_eq_false_iff_ne.2 (by omega)
    rw [if_neg h1]
    clear h1
    by_cases h2 : T.1 = 2
    · have g1 : ((T.1 : Int) == 2) = true := beq_iff_eq.2 (by omega)
      rw [if_pos h2]
      clear h2 HI
      generalize countR kidR T.2.1 T.2.2 = U at *
      go_enter Try.func27, Try.ntmps27
      go_wp2_with fail
      refine (unhide HC).mono ?_
      rintro x w1 ⟨rfl, ht⟩
      have HP := hide ((unhide HN).told ht hpr)
      have HT := hide ht.boxed
      have HD := hide ht.2
      clear ht HC HN
      obtain ⟨p, hp⟩ : ∃ y, y = w.heap.size := ⟨_, rfl⟩
      rw [← hp] at HP hpr ⊢
      have hpw : w.heap.size ≤ p := Nat.le_of_eq hp.symm
      clear hp
      go_wp2_with fail
      refine (unhide HK _ (unhide HD)).mono ?_
      rintro x w2 ⟨a, cap, rfl, ho, ht⟩
      have hp2 := (unhide HP).told ht hpr
      have HG := hide (grown_trans (unhide HT).1 ht.1)
      have HO := hide ho.row
      have c0 := hp2.cell0
      have c1 := hp2.cell1
      have c2 := hp2.cell2
      have f0 := hp2.free 0
      have f1' := hp2.free 1
      have f2 := hp2.free 2
      have HP2 := hide hp2
      clear ho ht hp2
      go_wp2
      have hs := (unhide HP2).store false none 0 0 a U.1.length cap (m := ⟨false, [], U.1⟩) (bi := none) (bk := a) ⟨.inl rfl, unhide HO⟩
      refine bodyPost_ret (v := .agg #[.bool false, .slice none 0 0, .slice a U.1.length cap]) ?_ rfl ⟨none, a, 0, cap, rfl, hs.2, grown_store (grown_store (grown_store (unhide HG) p 0 _ hpw) p 1 _ hpw) p 2 _ hpw⟩
      rw [results_cell1 rfl]
      go_simp
    · have g1 : ((T.1 : Int) == 2) = false := beq_eq_false_iff_ne.2 (by omega)
      rw [if_neg h2]
      clear h2 HI HK
      go_enter Try.func27, Try.ntmps27
      go_wp2_with fail
      refine (unhide HC).mono ?_
      rintro x w1 ⟨rfl, ht⟩
      have HP := hide ((unhide HN).told ht hpr)
      have HT := hide ht.boxed
      have HD := hide ht.2
      clear ht HC HN
      obtain ⟨p, hp⟩ : ∃ y, y = w.heap.size := ⟨_, rfl⟩
      rw [← hp] at HP hpr ⊢
      have hpw : w.heap.size ≤ p := Nat.le_of_eq hp.symm
      clear hp
      have hp2 := unhide HP
      have c0 := hp2.cell0
      have c1 := hp2.cell1
      have c2 := hp2.cell2
      have f0 := hp2.free 0
      have f1' := hp2.free 1
      have f2 := hp2.free 2
      clear hp2
      go_wp2
      have hs := (unhide HP).store false none 0 0 none 0 0 (m := ⟨false, [], []⟩) (bi := none) (bk := none) ⟨.inl rfl, .inl rfl⟩
      refine bodyPost_ret (v := .agg #[.bool false, .slice none 0 0, .slice none 0 0]) ?_ rfl ⟨none, none, 0, 0, rfl, hs.2, grown_store (grown_store (grown_store (unhide HT).1 p 0 _ hpw) p 1 _ hpw) p 2 _ hpw⟩
      rw [results_cell1 rfl]
      go_simp
end Go.Proofs.Ytepkifledonldaa
