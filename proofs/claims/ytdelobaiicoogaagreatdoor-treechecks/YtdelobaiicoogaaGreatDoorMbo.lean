/- Texts that the proof needs, one behind the other. -/
import Derived.Test.YtdelobaiicoogaaGreatDoorMbn
import Derived.Test.YtdelobaiicoogaaGreatDoorMbg
import Derived.Test.YtdelobaiicoogaaGreatDoorMax
import Derived.Test.YtdelobaiicoogaaGreatDoorMaw
import Derived.Test.YtdelobaiicoogaaGreatDoorMbj
import Derived.Test.YtdelobaiicoogaaGreatDoorMab
import Derived.Test.YtdelobaiicoogaaGreatDoorMaa
import Derived.Test.YtdelobaiicoogaaGreatDoorCards
import Derived.Test.YtdelobaiicoogaaGreatDoorTie
import Derived.ShutString
import Derived.ChangeOld
import Derived.Below
import Derived.Deep.DeepHandedRow
import Derived.Lib.LaidTab
import Derived.Lib.SmallJoins
import Derived.Test.YtdelobaiicoogaaGreatDoorMag
import Derived.Deep.Slices
import Derived.Deep.SlicePairs
/- The document's example: a put, b put, both are there. -/
namespace Go.Proofs.YtdelobaiicoogaaGreatDoor
open Go.ChangeShapes Go.WideShapes Go.ChangeAt Go.RowKit
attribute [local go_sem] Oper.semAt_some
variable {p d : Nat} {h : Hp} {c : Nat} {F : List Nat}

/-- what usual answers of a leaf -/
def UsualOk : Prop := ∀ (M B kc vc : Nat) (its l' : List L6.It) (ai ak : Option Addr) (ci ck : Nat) (w : World), w.cell? ⟨M, 5, none⟩ = some (.slice none 0 0) → w.cell? ⟨M, 6, none⟩ = some (.bool true) → w.cell? ⟨M, 7, none⟩ = some (.slice ai its.length ci) → w.cell? ⟨M, 8, none⟩ = some (.slice ak 0 ck) →
    w.cell? ⟨M, 9, none⟩ = some (.func (.func 46) #[] #[.pointer (some ⟨kc, 0, none⟩), .pointer (some ⟨vc, 0, none⟩)]) → L6.Row itV w ai its → its.length ≤ 1100 → Tame l' → lsz l' ≤ 1007 → l' ≠ [] → B ≤ w.heap.size →
    (∀ W, Below w.heap.size w W → Calls Tryz.prog 46 #[.slice ai its.length ci, .pointer (some ⟨kc, 0, none⟩), .pointer (some ⟨vc, 0, none⟩)] W fun e W' => ∃ v, e = .returned v ∧ OwnI W.heap.size W' v l' ∧ Below W.heap.size W W') →
    Calls Tryz.prog 149 #[.pointer (some ⟨M, 0, none⟩)] w fun e w' => PlanSaid w (Kp l' B) e w'
/-- Put of a key that isn't in a tree of one leaf, or of none -/
theorem put_new (U : UsualOk) (r : Int) (its : List L6.It) (key val : ByteArray) (w : World) (H : IsHeap w p d h c F) (hI : L5.I64 r) (hheld : heldE h [r] = 0) (hke : key.toList.isEmpty = false) (hks : key.size ≤ 272) (hvs : val.size ≤ 160)
    (hits : its.length ≤ 1000) (hbare : h.bare) (hc : c ≤ 999990) (hfnd : (L6.findK (its.map (fun x => x.1)) key).2 = false) (ht : Tame (putI its key val)) (hs : lsz (putI its key val) ≤ 1007) (hne : putI its key val ≠ []) (hok : (putR h ⟨true, putI its key val, []⟩).2.1 = 0)
    (hway : ∀ W, IsHeap W p d h c F → Calls Tryz.prog 42 #[.pointer (some ⟨p, 0, none⟩), .int .i64 r, .string key] W fun e W' => ∃ (ai ak : Option Addr) (ci ck : Nat), e = .returned (.tuple #[.slice none 0 0, .agg #[.bool true, .slice ai its.length ci, .slice ak 0 ck], .int .i64 0]) ∧ L6.Has W' ⟨true, its, []⟩ ai ak ∧ ItsAt W' its ai ci ∧ Below W.heap.size W W') :
    Calls Tryz.prog 15 #[.pointer (some ⟨p, 0, none⟩), .int .i64 r, .string key, .string val] w fun e w' => e = .returned (.tuple #[.int .i64 (putR h ⟨true, putI its key val, []⟩).1, .int .i64 0]) ∧ HTurned w w' p d (putR h ⟨true, putI its key val, []⟩).2.2 (c + 2) F :=
  put_go r its key val w H hI hheld hke hks hvs hits hbare hc hfnd ht hok hway
    (fun ai ak ci ck kc vc M B W hi hk hv hB m5 m6 m7 m8 m9 => U M B kc vc its _ ai ak ci ck W m5 m6 m7 m8 m9 hi.row (by omega) ht hs hne hB
      (fun W' hW => edit_any its ai ci key val kc vc W' (hi.grow hW) (by omega) ((hW.cell (World.block_lt_of_cell? _ _ hk)).trans hk) ((hW.cell (World.block_lt_of_cell? _ _ hv)).trans hv)))
theorem way_none (key : ByteArray) (W : World) (p : Nat) : Calls Tryz.prog 42 #[.pointer (some ⟨p, 0, none⟩), .int .i64 0, .string key] W fun e W' => ∃ (ai ak : Option Addr) (ci ck : Nat), e = .returned (.tuple #[.slice none 0 0, .agg #[.bool true, .slice ai (([] : List L6.It).length) ci, .slice ak 0 ck], .int .i64 0]) ∧ L6.Has W' ⟨true, [], []⟩ ai ak ∧ ItsAt W' [] ai ci ∧ Below W.heap.size W W' := by
  refine (wayTo_none _ key W).mono ?_
  rintro e W' ⟨rfl, hb⟩
  exact ⟨none, none, 0, 0, rfl, ⟨.inl rfl, .inl rfl⟩, .inl ⟨rfl, rfl, rfl⟩, hb⟩
theorem way_leaf (x : Nat) (hx : x < 4096) (hx0 : x ≠ 0) (key : ByteArray) (its : List L6.It) (hne : its ≠ []) (W : World) (H : IsHeap W p d h c F) (hget : getR h (x : Int) = (⟨true, its, []⟩, 0)) :
    Calls Tryz.prog 42 #[.pointer (some ⟨p, 0, none⟩), .int .i64 (x : Int), .string key] W fun e W' => ∃ (ai ak : Option Addr) (ci ck : Nat), e = .returned (.tuple #[.slice none 0 0, .agg #[.bool true, .slice ai its.length ci, .slice ak 0 ck], .int .i64 0]) ∧ L6.Has W' ⟨true, its, []⟩ ai ak ∧ ItsAt W' its ai ci ∧ Below W.heap.size W W' := by
  refine (wayTo_leaf x hx hx0 key its W H hget).mono ?_
  rintro e W' ⟨ai, ak, ci, ck, rfl, hh, hl, hb⟩
  refine ⟨ai, ak, ci, ck, rfl, hh, ?_, hb⟩
  rcases hh.1 with h | ⟨b, off, e, hr⟩
  · exact absurd h hne
  · exact .inr ⟨b, off, e, hr, hl⟩

def ka : ByteArray := ⟨#[97]⟩
def kb : ByteArray := ⟨#[98]⟩
def v1 : ByteArray := ⟨#[49]⟩
def v2 : ByteArray := ⟨#[50]⟩
def one : L6.Nd := ⟨true, [(ka, v1)], []⟩
def two : L6.Nd := ⟨true, [(ka, v1), (kb, v2)], []⟩
def ta0 : Hp := newH (L3.newM 16) 1
def ta1 : Hp := { dk := { ta0.dk with op := ta0.dk.op ++ [(2, sectorN 1 one)] }, al := some (1, 1) :: List.replicate 13 none, gen := 1, kids := fun _ => [] }
def ta2 : Hp := { dk := { ta1.dk with op := ta1.dk.op ++ [(3, sectorN 1 two)] }, al := some (1, 1) :: some (1, 1) :: List.replicate 12 none, gen := 1, kids := fun _ => [] }
theorem enc_one : (L6.encodeN one).2 = 0 := by kernel_rfl
theorem enc_two : (L6.encodeN two).2 = 0 := by kernel_rfl
theorem ta_put1 : putR ta0 one = (2, 0, ta1) := by
  rw [put_ok (i := 0) enc_one (by decide) (by decide) ⟨rfl, rfl⟩ (by decide) (by decide) (by decide)]
  have e : setK ta0.kids (2 + 0) (places one) = fun _ => [] := by
    funext i
    unfold setK
    split <;> rfl
  rw [e]
  rfl
theorem ta_put2 : putR ta1 two = (3, 0, ta2) := by
  rw [put_ok (i := 1) enc_two (by decide) (by decide) ⟨rfl, rfl⟩ (by decide) (by decide) (by decide)]
  have e : setK ta1.kids (2 + 1) (places two) = fun _ => [] := by
    funext i
    unfold setK
    split <;> rfl
  rw [e]
  rfl
theorem ta_get1 : getR ta1 ((2 : Nat) : Int) = (one, 0) := by
  unfold getR
  rw [if_neg (by decide)]
  have hr : L3.readM ta1.dk 2 = (sectorN 1 one, 0) := by
    have := read_write (m := ta0.dk) ⟨rfl, rfl⟩ (q := 2) (x := 2) (S := sectorN 1 one) (by decide) (by decide) (by decide) (by decide)
    rw [if_pos rfl] at this
    exact this
  unfold fetchM
  rw [show ((2 : Nat) : Int) = 2 from rfl, hr]
  have hn := nodeOf_sector (n := one) (g := 1) enc_one (by decide) (by decide)
  simp only [ne_eq, not_true_eq_false, if_false, hn]
theorem ta_get2 : getR ta2 ((3 : Nat) : Int) = (two, 0) := by
  unfold getR
  rw [if_neg (by decide)]
  have hr : L3.readM ta2.dk 3 = (sectorN 1 two, 0) := by
    have := read_write (m := ta1.dk) ⟨rfl, rfl⟩ (q := 3) (x := 3) (S := sectorN 1 two) (by decide) (by decide) (by decide) (by decide)
    rw [if_pos rfl] at this
    exact this
  unfold fetchM
  rw [show ((3 : Nat) : Int) = 3 from rfl, hr]
  have hn := nodeOf_sector (n := two) (g := 1) enc_two (by decide) (by decide)
  simp only [ne_eq, not_true_eq_false, if_false, hn]
theorem ta_bare0 : ta0.bare := fun _ _ => rfl
theorem ta_bare1 : ta1.bare := fun _ _ => rfl
theorem ta_cnt1 : ta1.cnt ((2 : Nat) : Int) ≠ 0 := by decide
theorem ta_cnt2 : ta2.cnt ((3 : Nat) : Int) ≠ 0 := by decide
theorem ta_items1 : putI [] ka v1 = one.its := putI_nil _ _
theorem ta_items2 : putI one.its kb v2 = two.its := by kernel_rfl
theorem ta_range : (leafR two.its ⟨#[]⟩ ⟨#[]⟩).take 9 = two.its := by kernel_rfl
theorem tame_one : Tame one.its := ⟨by decide, by intro x hx; simp [one] at hx; subst hx; decide⟩
theorem tame_two : Tame two.its := ⟨by decide, by intro x hx; simp [two] at hx; rcases hx with rfl | rfl <;> decide⟩
theorem lsz_one : lsz one.its ≤ 1007 := by decide
theorem lsz_two : lsz two.its ≤ 1007 := by decide
end Go.Proofs.YtdelobaiicoogaaGreatDoor

/- awake; the law of a nil heap and of free roots. -/
namespace Go.Proofs.YtdelobaiicoogaaGreatDoor
open Go.ChangeShapes Go.WideShapes Go.ChangeAt Go.RowKit
attribute [local go_sem] Oper.semAt_some
variable {p d : Nat} {h : Hp} {c : Nat} {F : List Nat}

theorem put_one (U : UsualOk) (w : World) (H : IsHeap w p d ta0 c F) (hc : c ≤ 100) : Calls Tryz.prog 15 #[.pointer (some ⟨p, 0, none⟩), .int .i64 0, .string ⟨#[97]⟩, .string ⟨#[49]⟩] w fun e w' => e = .returned (.tuple #[.int .i64 2, .int .i64 0]) ∧ HTurned w w' p d ta1 (c + 2) F := by
  have h1 : putR ta0 ⟨true, putI [] ka v1, []⟩ = (2, 0, ta1) := by
    rw [ta_items1]
    exact ta_put1
  have hq := put_new (p := p) (d := d) (F := F) U 0 [] ka v1 w H (by unfold L5.I64; omega) heldE_zero (by kernel_rfl) (by decide) (by decide) (by decide) ta_bare0 (by omega) (by kernel_rfl) (by rw [ta_items1]; exact tame_one) (by rw [ta_items1]; exact lsz_one) (by rw [ta_items1]; decide) (by rw [h1]) (fun W _ => way_none ka W p)
  rw [h1] at hq
  exact hq
theorem put_two (U : UsualOk) (w : World) (H : IsHeap w p d ta1 c F) (hc : c ≤ 100) : Calls Tryz.prog 15 #[.pointer (some ⟨p, 0, none⟩), .int .i64 2, .string ⟨#[98]⟩, .string ⟨#[50]⟩] w fun e w' => e = .returned (.tuple #[.int .i64 3, .int .i64 0]) ∧ HTurned w w' p d ta2 (c + 2) F := by
  have h1 : putR ta1 ⟨true, putI one.its kb v2, []⟩ = (3, 0, ta2) := by
    rw [ta_items2]
    exact ta_put2
  have hq := put_new (p := p) (d := d) (F := F) U ((2 : Nat) : Int) one.its kb v2 w H (by unfold L5.I64; omega) (heldE_is ta_cnt1) (by kernel_rfl) (by decide) (by decide) (by decide) ta_bare1 (by omega) (by kernel_rfl) (by rw [ta_items2]; exact tame_two) (by rw [ta_items2]; exact lsz_two) (by rw [ta_items2]; decide) (by rw [h1]) (fun W hW => way_leaf 2 (by decide) (by decide) kb one.its (by decide) W hW ta_get1)
  rw [h1] at hq
  exact hq
theorem range_two (w : World) (H : IsHeap w p d ta2 c F) : Calls Tryz.prog 17 #[.pointer (some ⟨p, 0, none⟩), .int .i64 3, .string ⟨#[]⟩, .string ⟨#[]⟩, .int .i64 9] w fun e w' => ∃ g cap, e = .returned (.tuple #[.slice (some ⟨g, 0, none⟩) 2 cap, .int .i64 0]) ∧ w'.cell? ⟨g, 0, none⟩ = some (.string ⟨#[97]⟩) ∧ w'.cell? ⟨g, 3, none⟩ = some (.string ⟨#[50]⟩) ∧ Below w.heap.size w w' := by
  have hq := range_leaf (p := p) (d := d) (c := c) (F := F) 3 (by decide) (by decide) ⟨#[]⟩ ⟨#[]⟩ 9 (by decide) (by decide) two.its w H ta_get2 ta_cnt2 (by decide) (by decide)
  rw [ta_range] at hq
  refine Calls.mono hq ?_
  rintro e w' ⟨v, rfl, ho, hb⟩
  have ho' : w'.ownsRow w.heap.size 58 2 v 2 (L6.pairs itV two.its) := ho
  rcases ho'.2 with ⟨_, hn⟩ | ⟨g, cap, cur, rfl, _⟩
  · exact absurd hn (by decide)
  · exact ⟨g, cap, rfl, World.ownsRow.cellAt ho' 0 (by decide), World.ownsRow.cellAt ho' 3 (by decide), hb⟩

set_option maxHeartbeats 2000000 in
set_option maxRecDepth 20000 in
theorem tawake_any (U : UsualOk) (w : World) (hT : L4.Tab w) : Calls Tryz.prog 5 #[] w fun e w' => e = .returned (.bool true) ∧ Below w.heap.size w w' := by
  have HT := hide hT
  have HB := hide (tbegun_ok 16 w hT (by decide) (by decide))
  clear hT
  go_enter Tryz.func5, Tryz.ntmps5
  go_wp2_with fail
  refine (unhide HB).mono ?_
  rintro e w1 ⟨p, d, F, rfl, H, hb1, hF⟩
  have HP := hide (put_one (p := p) (d := d) (F := F) U w1 H (by decide))
  have HX := hide (And.intro hb1 hF)
  clear H hb1 hF HB
  go_wp2_with fail
  refine (unhide HP).mono ?_
  rintro e w2 ⟨rfl, ht⟩
  obtain ⟨F2, H2, hb2, hF2⟩ := turned_below (unhide HX).1 ht (unhide HX).2
  have HP2 := hide (put_two (p := p) (d := d) (F := F2) U w2 H2 (by decide))
  have HX2 := hide (And.intro hb2 hF2)
  clear ht H2 hb2 hF2 HP HX
  go_wp2_with fail
  refine (unhide HP2).mono ?_
  rintro e w3 ⟨rfl, ht⟩
  obtain ⟨F3, H3, hb3, hF3⟩ := turned_below (unhide HX2).1 ht (unhide HX2).2
  have HR := hide (range_two (p := p) (d := d) (F := F3) w3 H3)
  have HB3 := hide hb3
  clear ht H3 hb3 hF3 HP2 HX2
  go_wp2_with fail
  refine (unhide HR).mono ?_
  rintro e w4 ⟨g, cap, rfl, c0, c3, hb⟩
  have HB4 := hide (below_then (unhide HB3) hb)
  clear hb
  go_wp2
  go_ret
  exact ⟨rfl, unhide HB4⟩
end Go.Proofs.YtdelobaiicoogaaGreatDoor

/- Whatever nodes stand below a root, Check answers as the document says. -/
namespace Go.Proofs.YtdelobaiicoogaaGreatDoor
open Go.ChangeShapes Go.WideShapes Go.ChangeAt Go.RowKit
attribute [local go_sem] Oper.semAt_some

set_option maxHeartbeats 8000000 in
set_option maxRecDepth 20000 in
theorem checks_walk (U : UsualOk) (l : List L6.Nd) (r : Int) (a : Option Addr) (cap : Nat) (w : World) (hT : L4.Tab w) (hl : Nds w.heap.size w a l) (hml : l.length ≤ maxLen) (hI : L5.I64 r) :
    Calls Tryz.prog 3 #[.slice a l.length cap, .int .i64 r] w fun e w' => e = .returned (.bool true) ∧ Below w.heap.size w w' := by
  have HT := hide hT
  have HLS := hide hl
  have HML := hide hml
  have HI := hide hI
  have hsz : 0 < w.heap.size := World.block_lt_of_cell? w ⟨0, 0, none⟩ (hT 0 (by omega))
  have HSZ := hide hsz
  clear hT hl hml hI hsz
  go_enter Tryz.func3, Tryz.ntmps3
  go_wp2_with fail
  refine (tawake_any U _ (unhide HT)).mono ?_
  rintro e w1 ⟨rfl, hb⟩
  have HB1 := hide hb
  clear hb
  by_cases h40 : 40 < l.length
  · have h40' : (40 : Int) < (l.length : Int) := by omega
    go_wp2
    go_ret
    exact ⟨rfl, unhide HB1⟩
  have h40' : ¬ (40 : Int) < (l.length : Int) := by omega
  go_wp2_with fail
  refine (tbegun_ok 64 w1 (tab_keep (unhide HT) (L5.Moves.of_below [] (unhide HB1)) List.not_mem_nil) (by decide) (by decide)).mono ?_
  rintro e w2 ⟨p, d, F, rfl, hp, hb2, hf2⟩
  have HP := hide (And.intro hp hf2)
  have HB2 := hide (below_then (unhide HB1) hb2)
  clear hp hf2 hb2
  go_wp2_with fail
  refine (L3.rnew_any 64 w2 (by decide) (by decide)).mono ?_
  rintro e w3 ⟨rr, fr, rfl, hr, hb3, hf3⟩
  have HR := hide (And.intro hr hf3)
  have HP3 := hide ((unhide HP).1.grow hb3)
  have HB3 := hide (below_then (unhide HB2) hb3)
  clear hr hb3 hf3
  go_wp2_with fail
  refine (rhnew_ok 1 w3 (unhide HR).1 (by decide) (by decide) (by rw [newM_len]; decide)).mono ?_
  rintro e w4 ⟨q, ra, rb, rfl, ha, hq, hb4, lq, la, lb⟩
  have hBoth : Both w.heap.size w w4 p d q (newH (L3.newM 64) 1) 0 F (rfoot q ra rb fr) := by
    have h1 := (unhide HB1).size
    have h2 := (unhide HB2).size
    have h3 := (unhide HB3).size
    have hfr : ∀ x ∈ fr, w.heap.size ≤ x := fun x hx => by have := (unhide HR).2 x hx; omega
    have hsz := unhide HSZ
    refine ⟨(unhide HP3).grow hb4, ?_, below_then (unhide HB3) hb4, fun x hx => ?_, fun x hx => ?_, by have := hb4.size; omega⟩
    · exact rh_new (unhide HR).1 (tab_keep (unhide HT) (L5.Moves.of_below [] (unhide HB3)) List.not_mem_nil) (fun x hx => by have := hfr x hx; omega) (by omega) (by decide) (by decide) (by rw [newM_len]; decide) ha hq hb4 lq la lb
    · have := (unhide HP).2 x hx; omega
    · simp only [rfoot, List.mem_cons] at hx
      rcases hx with rfl | rfl | rfl | hx
      · omega
      · omega
      · omega
      · exact hfr x hx
  have HPA := hide hBoth
  have HSA := hide sane_new
  generalize newH (L3.newM 64) 1 = hh0 at *
  generalize rfoot q ra rb fr = Fq at *
  clear hBoth ha hq hb4 lq la lb HP HP3 HR HB1 HB2 HB3
  go_wp2_with fail
  go_loopw [11] (fun t wr => ∃ (k : Nat) (hk : Hp) (c : Nat) (F1 F2 : List Nat), k ≤ l.length ∧ t = .int .i64 (k : Int) ∧ Both w.heap.size w wr p d q hk c F1 F2 ∧ Sane hk k ∧ c ≤ 2 * k) (fun t _ => l.length - (intOf t).toNat)
  case atStart => exact ⟨0, hh0, 0, F, Fq, Nat.zero_le _, rfl, unhide HPA, unhide HSA, Nat.zero_le _⟩
  case round =>
    clear HPA HSA
    obtain ⟨k, hk, c, F1, F2, hkl, rfl, hP, hS, hc⟩ := hrel
    have HP := hide hP
    have HS := hide hS
    have HC := hide hc
    clear hP hS hc
    by_cases hlt : k < l.length
    · obtain ⟨b, off, rfl, ai, ci, ak, ck, hin, p0, p1, p2⟩ := (unhide HLS).at (Below.refl _ _) hlt
      have hbb : b < w.heap.size := World.block_lt_of_cell? w _ p0
      have hlt' : (k : Int) < (l.length : Int) := by omega
      have hl2 : k * 3 + 2 < l.length * 3 := by omega
      have hk40 : k < 40 := by omega
      obtain ⟨n, hn⟩ : ∃ n, n = l[k] := ⟨_, rfl⟩
      rw [← hn] at hin p0 p1 p2
      have HIN := hide hin
      have HPC := hide (And.intro p0 (And.intro p1 p2))
      have HBB := hide hbb
      have q0 := ((unhide HP).bel.cell (p := ⟨b, off + k * 3, none⟩) hbb).trans p0
      have q1 := ((unhide HP).bel.cell (p := ⟨b, off + k * 3 + 1, none⟩) hbb).trans p1
      have q2 := ((unhide HP).bel.cell (p := ⟨b, off + k * 3 + 2, none⟩) hbb).trans p2
      clear hin hn p0 p1 p2 hbb
      have hng := ((unhide HIN).base (unhide HP).bel)
      have HNG := hide hng
      clear hng
      go_wp2_with fail
      refine (L6.great_any n ai ak ci ck wr (unhide HNG).has (unhide HNG).few.1 (unhide HNG).few.2).mono ?_
      rintro e w7 ⟨g, rfl, hg, hb7⟩
      have HP7 := hide ((unhide HP).grow hb7)
      have HG := hide hg
      clear hb7 hg q0 q1 q2 HNG
      cases g with
      | true =>
        go_wp2
        go_ret
        exact ⟨rfl, (unhide HP7).bel⟩
      | false =>
        have HFW : Hid (L6.Few n) := by first | exact unhide HG rfl | exact unhide HG trivial
        have q0 := ((unhide HP7).bel.cell (p := ⟨b, off + k * 3, none⟩) (unhide HBB)).trans (unhide HPC).1
        have q1 := ((unhide HP7).bel.cell (p := ⟨b, off + k * 3 + 1, none⟩) (unhide HBB)).trans (unhide HPC).2.1
        have q2 := ((unhide HP7).bel.cell (p := ⟨b, off + k * 3 + 2, none⟩) (unhide HBB)).trans (unhide HPC).2.2
        clear HG
        go_wp2_with fail
        refine (hput_any n ai ak ci ck w7 (unhide HP7).heap ((unhide HIN).base (unhide HP7).bel).has (by have := (unhide HFW).1; omega) (by have := (unhide HFW).2.1; omega) (unhide HS).bare (by have := unhide HC; omega)).mono ?_
        rintro e w8 ⟨rfl, ht8⟩
        have hb8 : Below w.heap.size w w8 := by
          obtain ⟨_, _, m8, _⟩ := ht8
          exact m8.below (unhide HP7).bel (unhide HP7).hF (unhide HP7).sz
        have HT8 := hide ht8
        have HB8 := hide hb8
        clear q0 q1 q2 ht8 hb8
        have q0 := ((unhide HB8).cell (p := ⟨b, off + k * 3, none⟩) (unhide HBB)).trans (unhide HPC).1
        have q1 := ((unhide HB8).cell (p := ⟨b, off + k * 3 + 1, none⟩) (unhide HBB)).trans (unhide HPC).2.1
        have q2 := ((unhide HB8).cell (p := ⟨b, off + k * 3 + 2, none⟩) (unhide HBB)).trans (unhide HPC).2.2
        go_wp2_with fail
        refine (rhput_any n ai ak ci ck w8 ((unhide HP7).mid (unhide HT8)) ((unhide HIN).base (unhide HB8)).has (by have := (unhide HFW).1; omega) (by have := (unhide HFW).2.1; omega) (by have := (unhide HS).few; omega)).mono ?_
        rintro e w9 ⟨rfl, ht9⟩
        obtain ⟨F1', F2', hP9⟩ := (unhide HP7).turn (unhide HT8) ht9
        have HP9 := hide hP9
        clear q0 q1 q2 ht9 hP9
        go_wp2
        go_roundw
        case rel => exact ⟨k + 1, _, c + 2, F1', F2', by omega, by go_num, unhide HP9, sane_put (unhide HS) n, by have := unhide HC; omega⟩
        case measure => simp [intOf]; omega
    · obtain rfl : k = l.length := by omega
      clear hlt
      have hk40 : l.length ≤ 1000000 := by omega
      have HK40 := hide hk40
      clear hk40
      go_wp2_with fail
      go_loopw [12] (fun t wr' => ∃ j : Nat, j ≤ 46 ∧ t = .int .i64 (j : Int) ∧ Both w.heap.size w wr' p d q hk c F1 F2) (fun t _ => 46 - (intOf t).toNat)
      case atStart => exact ⟨0, by omega, rfl, unhide HP⟩
      case round =>
        clear HP
        obtain ⟨j, hj, rfl, hP⟩ := hrel
        have HP := hide hP
        clear hP
        by_cases hj46 : j < 46
        · have hj' : (j : Int) < 46 := by omega
          have HJ : Hid (L5.I64 (j : Int)) := by show L5.I64 _; unfold L5.I64; omega
          go_wp2_with fail
          refine (tcheck_any (unhide HS) (j : Int) (unhide HJ) _ (unhide HP).heap).mono ?_
          rintro e w5 ⟨rfl, hb5⟩
          have HP5 := hide ((unhide HP).grow hb5)
          clear hb5
          go_wp2_with fail
          refine (rcheck_any (unhide HS) (unhide HK40) (j : Int) (unhide HJ) _ (unhide HP5).ref).mono ?_
          rintro e w6 ⟨rfl, hb6⟩
          have HP6 := hide ((unhide HP5).grow hb6)
          clear hb6
          generalize checkR hk (j : Int) = C
          have hcc : (C != C) = false := by simp
          go_wp2
          go_roundw
          case rel => exact ⟨j + 1, by omega, by go_num, unhide HP6⟩
          case measure => simp [intOf]; omega
        · obtain rfl : j = 46 := by omega
          go_wp2_with fail
          refine (tcheck_any (unhide HS) r (unhide HI) _ (unhide HP).heap).mono ?_
          rintro e w5 ⟨rfl, hb5⟩
          have HP5 := hide ((unhide HP).grow hb5)
          clear hb5
          go_wp2_with fail
          refine (rcheck_any (unhide HS) (unhide HK40) r (unhide HI) _ (unhide HP5).ref).mono ?_
          rintro e w6 ⟨rfl, hb6⟩
          have HP6 := hide ((unhide HP5).grow hb6)
          clear hb6
          generalize checkR hk r = C
          have hcc : (C == C) = true := by simp
          go_wp2
          go_ret
          exact ⟨by first | rfl | simp, (unhide HP6).bel⟩
end Go.Proofs.YtdelobaiicoogaaGreatDoor

/- What the rows' frames share: the tables that the rows list, a start that fits. -/
namespace Go.Proofs.YtdelobaiicoogaaGreatDoor
open Go.ChangeShapes Go.WideShapes Go.ChangeAt Go.RowKit

theorem i64_of {a : Int} (h : (Lit.int .i64 a).wf = true) : L5.I64 a := by
  have h2 : -9223372036854775808 ≤ a ∧ a ≤ 9223372036854775807 := by simpa [Lit.wf, IntKind.min, IntKind.max, IntKind.signed, IntKind.bits] using h
  exact h2
theorem ownKnobs : ownKnob Tryz.prog.godebug = none := by kernel_rfl
theorem laidOut : laidOutB Tryz.prog = true := by kernel_rfl
/-- the name of the table, as the rows give it -/
def tabName : String := Rows.treeNilRow.named.headD Rows.treeNilRow.func
theorem gTab : Tryz.prog.globalNamed tabName = some 0 := by kernel_rfl
theorem gTabType : (Tryz.prog.globals[0]?).map (·.type) = some 324 := by kernel_rfl
theorem cells238 : Tryz.prog.cellsOf 324 = 16 := by kernel_rfl
theorem cells169 : Tryz.prog.cellsOf 161 = 1 := by kernel_rfl
theorem table {W : World} (h : laidMetH Tryz.prog Rows.treeNilRow.laid W) : L4.Tab W := by
  have t : Lib.TabIs Tryz.prog W tabName .u32 (L4.Crc.tabN.map fun n : Nat => (n : Int)) :=
    Lib.tabIs_of_head (rest := Rows.treeNilRow.laid.tail) gTab gTabType Tryz.underlying324 Tryz.underlying161 cells169 cells238 h
  intro i hi
  have c := t.cell gTab i (by simpa [L4.Crc.tabN] using hi)
  rw [c]
  have e : ∀ j : Fin 16, (L4.Crc.tabN.map fun n : Nat => (n : Int)).getD j.val 0 = (L4.Crc.tab j.val : Int) := by decide
  rw [e ⟨i, hi⟩]


/-- the library's two tables, for a start that fits -/
def firstN : List Nat := List.replicate 128 240 ++ List.replicate 66 241 ++ List.replicate 30 2 ++ [19] ++ List.replicate 12 3 ++ [35] ++ List.replicate 2 3 ++ [52] ++ List.replicate 3 4 ++ [68] ++ List.replicate 11 241
def rangeN : List Nat := [128, 191, 160, 191, 128, 159, 144, 191, 128, 143] ++ List.replicate 22 0
end Go.Proofs.YtdelobaiicoogaaGreatDoor

/- Nodes that came in. -/
namespace Go.Proofs.YtdelobaiicoogaaGreatDoor.L6
open Go.ChangeShapes Go.WideShapes Go.ChangeAt Go.RowKit Go.Deep Go.Joins

theorem range_get {α : Type} (f : Nat → α) {len i : Nat} {x : α} (h : ((List.range len).map f)[i]? = some x) : i < len ∧ x = f i := by
  rw [List.getElem?_map] at h
  by_cases hi : i < len
  · rw [List.getElem?_range hi] at h
    simp at h
    exact ⟨hi, h.symm⟩
  · rw [List.getElem?_eq_none (by simpa using hi)] at h
    simp at h

theorem its_in {H : Type} {enc : TypeId × Value → H} {W : World} {n : Nat} {v : Value} {x : DataW H × List MemPlace} (h : DataW.trod enc Tryz.prog W 0 (fun _ => true) true n 35 [v] = some x) :
    ∃ (a : Option Addr) (cap : Nat) (l : List It), v = .slice a l.length cap ∧ Row Value.string W a l ∧ l.length ≤ maxLen := by
  rcases open_slice_pairs Tryz.underlying35 Tryz.underlying58 (by kernel_rfl) rfl rfl (by kernel_rfl) (by kernel_rfl) h with ⟨hcs, _⟩ | ⟨a, len, cap, m, n, V0, V1, D0, D1, P0, P1, hcs, _, hl, hm, hmm, _, hx⟩
  · simp at hcs
    subst hcs
    exact ⟨none, 0, [], rfl, .inl rfl, Nat.zero_le _⟩
  · simp at hcs
    subst hcs
    have hmc : m = cap := by simpa using hmm
    subst hmc
    have key : ∀ i, i < len → ∃ q : It, W.cell? (a.add (i * 2)) = some (.string q.1) ∧ W.cell? (a.add (i * 2 + 1)) = some (.string q.2) := by
      intro i hi
      obtain ⟨c0, c1, t0, t1⟩ := hx i (by omega)
      obtain ⟨k0, e0, _⟩ := DataW.trod_string Tryz.underlying9 t0
      obtain ⟨k1, e1, _⟩ := DataW.trod_string Tryz.underlying9 t1
      simp at e0 e1
      rw [e0] at c0
      rw [e1] at c1
      exact ⟨(k0, k1), c0, c1⟩
    haveI : Inhabited It := ⟨(⟨#[]⟩, ⟨#[]⟩)⟩
    obtain ⟨f, hf⟩ := choose_lt key
    refine ⟨some a, m, (List.range len).map f, by simp, ?_, by simp; omega⟩
    by_cases h0 : len = 0
    · exact .inl (by rw [h0]; rfl)
    · obtain ⟨b, off, spot⟩ := a
      have hspot : spot = none := by simpa [Addr.add] using World.cell?_spot (hf 0 (by omega)).1
      subst hspot
      refine .inr ⟨b, off, rfl, fun i x hx' => ?_⟩
      obtain ⟨hi, rfl⟩ := range_get f hx'
      obtain ⟨c0, c1⟩ := hf i hi
      rw [Go.WideShapes.add_plain] at c0 c1
      exact ⟨c0, by rw [← Nat.add_assoc] at c1; exact c1⟩

theorem kds_in {H : Type} {enc : TypeId × Value → H} {W : World} {n : Nat} {v : Value} {x : DataW H × List MemPlace} (h : DataW.trod enc Tryz.prog W 0 (fun _ => true) true n 36 [v] = some x) :
    ∃ (a : Option Addr) (cap : Nat) (l : List Kd), v = .slice a l.length cap ∧ Row kv W a l ∧ l.length ≤ maxLen := by
  rcases open_slice_pairs Tryz.underlying36 Tryz.underlying76 (by kernel_rfl) rfl rfl (by kernel_rfl) (by kernel_rfl) h with ⟨hcs, _⟩ | ⟨a, len, cap, m, n, V0, V1, D0, D1, P0, P1, hcs, _, hl, hm, hmm, _, hx⟩
  · simp at hcs
    subst hcs
    exact ⟨none, 0, [], rfl, .inl rfl, Nat.zero_le _⟩
  · simp at hcs
    subst hcs
    have hmc : m = cap := by simpa using hmm
    subst hmc
    have key : ∀ i, i < len → ∃ q : Kd, W.cell? (a.add (i * 2)) = some (.string q.1) ∧ W.cell? (a.add (i * 2 + 1)) = some (.int .i64 q.2) := by
      intro i hi
      obtain ⟨c0, c1, t0, t1⟩ := hx i (by omega)
      obtain ⟨k0, e0, _⟩ := DataW.trod_string Tryz.underlying9 t0
      obtain ⟨k1, e1, _⟩ := DataW.trod_int Tryz.underlying3 t1
      simp at e0 e1
      rw [e0] at c0
      rw [e1] at c1
      exact ⟨(k0, k1), c0, c1⟩
    haveI : Inhabited Kd := ⟨(⟨#[]⟩, 0)⟩
    obtain ⟨f, hf⟩ := choose_lt key
    refine ⟨some a, m, (List.range len).map f, by simp, ?_, by simp; omega⟩
    by_cases h0 : len = 0
    · exact .inl (by rw [h0]; rfl)
    · obtain ⟨b, off, spot⟩ := a
      have hspot : spot = none := by simpa [Addr.add] using World.cell?_spot (hf 0 (by omega)).1
      subst hspot
      refine .inr ⟨b, off, rfl, fun i x hx' => ?_⟩
      obtain ⟨hi, rfl⟩ := range_get f hx'
      obtain ⟨c0, c1⟩ := hf i hi
      rw [Go.WideShapes.add_plain] at c0 c1
      exact ⟨c0, by rw [← Nat.add_assoc] at c1; exact c1⟩

end Go.Proofs.YtdelobaiicoogaaGreatDoor.L6

/- Calls that came in. -/
namespace Go.Proofs.YtdelobaiicoogaaGreatDoor
open Go.ChangeShapes Go.WideShapes Go.ChangeAt Go.RowKit Go.Deep

theorem under_row {β : Type} {sv : β → Value} {W : World} {a : Option Addr} {l : List (ByteArray × β)} (h : L6.Row sv W a l) : l = [] ∨ Under W.heap.size a := by
  rcases h with h | ⟨b, off, e, hh⟩
  · exact .inl h
  · by_cases hl : l = []
    · exact .inl hl
    · right
      intro x hx
      rw [e] at hx
      injection hx with hx
      rw [← hx]
      obtain ⟨y, hy⟩ : ∃ y, l[0]? = some y := ⟨_, List.getElem?_eq_getElem (List.length_pos_iff.2 hl)⟩
      exact World.block_lt_of_cell? _ _ (hh 0 y hy).1
end Go.Proofs.YtdelobaiicoogaaGreatDoor

/- Nodes that came in. -/
namespace Go.Proofs.YtdelobaiicoogaaGreatDoor
open Go.ChangeShapes Go.WideShapes Go.ChangeAt Go.RowKit Go.Deep

set_option maxRecDepth 100000 in
theorem nodes_of {H : Type} {enc : TypeId × Value → H} {W : World} {a : Option Addr} {len cap : Nat} {d : DataW H} {p : List MemPlace} (h : DataW.Trod enc Tryz.prog W 0 (fun _ => true) true 22 (Value.slice a len cap) d p) : ∃ l : List L6.Nd, len = l.length ∧ Nds W.heap.size W a l ∧ l.length ≤ maxLen := by
  obtain ⟨fuel, hf⟩ := h
  have ce : Tryz.prog.cellsOf 38 = 3 := by kernel_rfl
  have k4 : Tryz.prog.cellsOf 4 = 1 := by kernel_rfl
  have k35 : Tryz.prog.cellsOf 35 = 1 := by kernel_rfl
  have k36 : Tryz.prog.cellsOf 36 = 1 := by kernel_rfl
  rcases open_slice Tryz.underlying22 hf with ⟨hcs, _⟩ | ⟨x, l, c, m, n, D, Pl, hcs, _, hl, hm, hmm, _, hx⟩
  · simp [Value.cells] at hcs
    obtain ⟨rfl, rfl, rfl⟩ := hcs
    exact ⟨[], rfl, .inl rfl, Nat.zero_le _⟩
  · simp [Value.cells] at hcs
    obtain ⟨rfl, rfl, rfl⟩ := hcs
    have hmc : m = cap := by simpa using hmm
    subst hmc
    by_cases h0 : len = 0
    · exact ⟨[], h0, .inl rfl, Nat.zero_le _⟩
    · obtain ⟨b, off, spot⟩ := x
      have hspot : spot = none := by
        obtain ⟨cs', h1, _⟩ := hx 0 (by omega)
        rw [ce] at h1
        obtain ⟨_, hlen, hcell⟩ := World.cells?_some h1
        match cs', hlen with
        | v0 :: _, _ =>
          have := hcell 0 (by omega)
          rw [List.getElem?_cons_zero] at this
          simpa [Addr.add] using World.cell?_spot this
      subst hspot
      have key : ∀ i, i < len → ∃ q : L6.Nd, ∃ ai ci ak ck, NdIn W.heap.size W q ai ak ∧ ∀ j v, (ndV q ai ci ak ck)[j]? = some v → W.cell? ⟨b, off + i * 3 + j, none⟩ = some v := by
        intro i hi
        obtain ⟨cs', h1, h2⟩ := hx i (by omega)
        rw [ce] at h1
        obtain ⟨_, hlen, hcell⟩ := World.cells?_some h1
        obtain ⟨xs, k, hk, hxy, _, hxl, hfl⟩ := DataW.trod_struct Tryz.underlying38 h2
        match xs, hxl, cs', hlen with
        | [z0, z1, z2], _, [v0, v1, v2], _ =>
          have q0 := hfl 0 _ rfl
          have q1 := hfl 1 _ rfl
          have q2 := hfl 2 _ rfl
          simp [k4, k35, k36] at q0 q1 q2
          have e0 := hcell 0 (by omega)
          have e1 := hcell 1 (by omega)
          have e2 := hcell 2 (by omega)
          rw [add_add, Go.WideShapes.add_plain] at e0 e1 e2
          obtain ⟨lf, r3, _⟩ := DataW.trod_bool Tryz.underlying4 q0
          obtain ⟨ai, ci, its, rfl, hit, hil⟩ := L6.its_in q1
          obtain ⟨ak, ck, kds, rfl, hkd, hdl⟩ := L6.kds_in q2
          simp at r3
          subst r3
          refine ⟨⟨lf, its, kds⟩, ai, ci, ak, ck, ⟨⟨hit, hkd⟩, under_row hit, under_row hkd, ⟨hil, hdl⟩⟩, fun j v hv => ?_⟩
          match j, hv with
          | 0, hv => simp [ndV] at hv; subst hv; exact e0
          | 1, hv => simp [ndV] at hv; subst hv; exact e1
          | 2, hv => simp [ndV] at hv; subst hv; exact e2
          | j + 3, hv => simp [ndV] at hv
      haveI : Inhabited L6.Nd := ⟨L6.nd0⟩
      obtain ⟨f, hf⟩ := choose_lt key
      refine ⟨(List.range len).map f, by simp, .inr ⟨b, off, rfl, ?_, fun i x hx' => ?_⟩, by simp; omega⟩
      · obtain ⟨ai, ci, ak, ck, _, h2⟩ := hf 0 (by omega)
        exact World.block_lt_of_cell? _ _ (h2 0 _ rfl)
      · obtain ⟨hi, rfl⟩ := L6.range_get f hx'
        exact hf i hi
end Go.Proofs.YtdelobaiicoogaaGreatDoor
