/- Texts that the proof needs, one behind the other. -/
import Derived.Test.YteokbefcdpjkaaaGreatDoorMai
import Derived.Test.YteokbefcdpjkaaaGreatDoorMaj
import Derived.Test.YteokbefcdpjkaaaGreatDoorMaa
import Derived.Test.YteokbefcdpjkaaaGreatDoorCards
import Derived.Test.YteokbefcdpjkaaaGreatDoorTie
import Derived.ShutString
import Derived.ChangeOld
import Derived.Below
import Derived.Deep.DeepHandedRow
import Derived.Lib.LaidTab
import Derived.Lib.SmallJoins
/- The document's example: awake; a nil heap. -/
namespace Go.Proofs.YteokbefcdpjkaaaGreatDoor
open Go.ChangeShapes Go.WideShapes Go.ChangeAt Go.RowKit

def aw0 : Hp := newH (L3.newM 8) 1
def aw1 : Hp := { dk := { aw0.dk with op := aw0.dk.op ++ [(2, sectorN 1 (leafN 1))] }, al := [some (1, 1), none, none, none, none, none], gen := 1, kids := fun _ => [] }
def aw2 : Hp := { dk := { aw1.dk with op := aw1.dk.op ++ [(3, sectorN 1 (innerN [2]))] }, al := [some (2, 1), some (1, 1), none, none, none, none], gen := 1, kids := setK (fun _ => []) 3 [2] }
theorem enc_leaf1 : (L6.encodeN (leafN 1)).2 = 0 := by kernel_rfl
theorem enc_inner2 : (L6.encodeN (innerN [2])).2 = 0 := by kernel_rfl
theorem aw_put1 : putR aw0 (leafN 1) = (2, 0, aw1) := by
  rw [put_ok (i := 0) enc_leaf1 (by decide) (by decide) ⟨rfl, rfl⟩ (by decide) (by decide) (by decide)]
  have e : setK aw0.kids (2 + 0) (places (leafN 1)) = fun _ => [] := by
    funext i
    unfold setK
    split <;> rfl
  rw [e]
  rfl
theorem aw_put2 : putR aw1 (innerN [2]) = (3, 0, aw2) := by
  rw [put_ok (i := 1) enc_inner2 (by decide) (by decide) ⟨rfl, rfl⟩ (by decide) (by decide) (by decide)]
  rfl
theorem aw_get : getR aw2 3 = (innerN [2], 0) := by
  unfold getR
  rw [if_neg (by decide)]
  have hr : L3.readM aw2.dk 3 = (sectorN 1 (innerN [2]), 0) := by
    have := read_write (m := aw1.dk) ⟨rfl, rfl⟩ (q := 3) (x := 3) (S := sectorN 1 (innerN [2])) (by decide) (by decide) (by decide) (by decide)
    rw [if_pos rfl] at this
    exact this
  unfold fetchM
  rw [hr]
  have hn := nodeOf_sector (n := innerN [2]) (g := 1) enc_inner2 (by decide) (by decide)
  simp only [ne_eq, not_true_eq_false, if_false, hn]
theorem aw_bare0 : aw0.bare := fun _ _ => rfl
theorem aw_bare1 : aw1.bare := fun _ _ => rfl

/-- nothing that was there has turned: F is new -/
theorem turned_below {w0 w w' : World} {p d : Nat} {h : Hp} {c : Nat} {F : List Nat} (h0 : Below w0.heap.size w0 w) (k : HTurned w w' p d h c F) (hF : ∀ x ∈ F, w0.heap.size ≤ x) : ∃ F', IsHeap w' p d h c F' ∧ Below w0.heap.size w0 w' ∧ ∀ x ∈ F', w0.heap.size ≤ x := by
  have hb := k.below h0 hF h0.size
  obtain ⟨F', k1, k2, k3⟩ := k
  refine ⟨F', k1, hb, fun x hx => ?_⟩
  rcases k3 x hx with h1 | h1
  · exact hF x h1
  · exact Nat.le_trans h0.size h1
set_option maxHeartbeats 2000000 in
set_option maxRecDepth 20000 in
theorem awake_any (w : World) (hT : L4.Tab w) : Calls Tryz.prog 9 #[] w fun e w' => e = .returned (.bool true) ∧ Below w.heap.size w w' := by
  have HT := hide hT
  clear hT
  go_enter Tryz.func9, Tryz.ntmps9
  go_wp2_with (go_at_call 17; refine (begun_ok 8 _ (unhide HT) (by decide) (by decide)).mono ?_; rintro e w1 ⟨p, q, d, F, rfl, hp, hb, hf⟩; have HP := hide hp; have HB := hide hb; have HF := hide hf; clear hp hb hf)
  refine (leaf_any 1 w1).mono ?_
  rintro e w2 ⟨ai, ak, ci, ck, rfl, hh, hb, _⟩
  have HP2 : Hid (IsHeap w2 p d aw0 0 F) := (unhide HP).grow hb
  have HB2 := hide (below_then (unhide HB) hb)
  have HH2 := hide hh
  clear hh hb HP HB
  go_wp2_with fail
  refine (hput_any (leafN 1) ai ak ci ck w2 (unhide HP2) (unhide HH2) (by decide) (by decide) aw_bare0 (by decide)).mono ?_
  rw [aw_put1]
  rintro e w3 ⟨rfl, ht⟩
  obtain ⟨F3, hp, hb, hf⟩ := turned_below (unhide HB2) ht (unhide HF)
  have HP3 := hide hp
  have HB3 := hide hb
  have HF3 := hide hf
  clear hp hb hf ht HP2 HB2 HH2 HF
  have hI : Irow (w3.alloc (.cells #[.int .i64 2] 3)) (some ⟨w3.heap.size, 0, none⟩) [2] := by
    refine .inr ⟨_, _, rfl, fun i x hx => ?_⟩
    match i, hx with
    | 0, hx => simp at hx; subst hx; simp
    | i + 1, hx => simp at hx
  have HI := hide hI
  clear hI
  go_wp2_with fail
  refine (inner_any [2] (some ⟨w3.heap.size, 0, none⟩) 1 _ (unhide HI) (by decide)).mono ?_
  rintro e w4 ⟨ai, ak, ci, ck, rfl, hh, hb, _⟩
  have hb' := below_then (below_alloc w3 (.cells #[.int .i64 2] 3)) hb
  have HP4 := hide ((unhide HP3).grow hb')
  have HB4 := hide (below_then (unhide HB3) hb')
  have HH4 := hide hh
  clear hh hb hb' HP3 HB3
  go_wp2_with fail
  refine (hput_any (innerN [2]) ai ak ci ck w4 (unhide HP4) (unhide HH4) (by decide) (by decide) aw_bare1 (by decide)).mono ?_
  rw [aw_put2]
  rintro e w5 ⟨rfl, ht⟩
  obtain ⟨F5, hp, hb, hf⟩ := turned_below (unhide HB4) ht (unhide HF3)
  have HP5 := hide hp
  have HB5 := hide hb
  clear hp hb hf ht HP4 HB4 HH4 HF3
  go_wp2_with fail
  refine (hget_any 3 ⟨by decide, by decide⟩ w5 (unhide HP5)).mono ?_
  rw [aw_get]
  rintro e w6 ⟨ai, ak, ci, ck, rfl, hh, hb⟩
  have hN := L6.Nblk.new w6 false ai ak 0 ci 1 ck
  have hb6 := below_alloc w6 (.cells #[.bool false, .slice ai 0 ci, .slice ak 1 ck] 43)
  have x2 := hN.cell2
  have HP6 := hide (((unhide HP5).grow hb).grow hb6)
  have HB6 := hide (below_then (below_then (unhide HB5) hb) hb6)
  have hc2 : (aw2.cnt 2 : Int) = 2 := by decide
  clear hh hb hN hb6 HP5 HB5
  go_wp2_with (go_at_call 19; refine (hcount_any 2 ⟨by decide, by decide⟩ _ (unhide HP6)).mono ?_; rintro e w7 ⟨rfl, hw⟩; rw [hw]; clear hw w7; rw [hc2])
  go_ret
  exact ⟨rfl, unhide HB6⟩

set_option maxHeartbeats 2000000 in
set_option maxRecDepth 20000 in
theorem nil_walk (n : Int) (w : World) (hT : L4.Tab w) : Calls Tryz.prog 8 #[.int .i64 n] w fun e w' => e = .returned (.bool true) ∧ Below w.heap.size w w' := by
  have HT := hide hT
  have HB0 := hide (Below.refl w.heap.size w)
  clear hT
  go_enter Tryz.func8, Tryz.ntmps8
  go_wp2_with (first
    | (go_at_call 31; refine (leaf_any 1 w).mono ?_; rintro e w1 ⟨ai, ak, ci, ck, rfl, hh, hb, _⟩; have HB1 := hide hb; clear hh hb)
    | (go_at_call 30; refine (hput_nil _ _ _ _).mono ?_; rintro e w2 ⟨rfl, hb⟩; have HB2 := hide (below_then (unhide HB1) hb); clear hb)
    | (go_at_call 20; refine (hget_nil n _).mono ?_; rintro e w3 ⟨rfl, hb⟩; have HB3 := hide (below_then (below_then (unhide HB2) hb) (below_alloc w3 (.cells #[.bool false, .slice none 0 0, .slice none 0 0] 43))); clear hb)
    | (go_at_call 13; refine (hnew_nil n _).mono ?_; rintro e w4 ⟨rfl, hw⟩; rw [hw]; clear hw w4)
    | (go_at_call 9; refine (awake_any _ (tab_keep (unhide HT) (L5.Moves.of_below [] (unhide HB3)) List.not_mem_nil)).mono ?_; rintro e w5 ⟨rfl, hb⟩; have HB5 := hide (below_then (unhide HB3) hb); clear hb)
    | (go_at_call 32; refine (hhold_nil n _).mono ?_; rintro e w6 ⟨rfl, hw⟩; rw [hw]; clear hw w6)
    | (go_at_call 28; refine (hdrop_nil n _).mono ?_; rintro e w7 ⟨rfl, hb⟩; have HB7 := hide (below_then (unhide HB5) hb); clear hb)
    | (go_at_call 27; refine (hload_nil n _).mono ?_; rintro e w8 ⟨rfl, hw⟩; rw [hw]; clear hw w8)
    | (go_at_call 23; refine (hsettle_nil _).mono ?_; rintro e w8 ⟨rfl, hw⟩; rw [hw]; clear hw w8)
    | (go_at_call 26; refine (hgen_nil _).mono ?_; rintro e w8 ⟨rfl, hw⟩; rw [hw]; clear hw w8)
    | (go_at_call 29; refine (hroom_nil _).mono ?_; rintro e w8 ⟨rfl, hw⟩; rw [hw]; clear hw w8)
    | (go_at_call 19; refine (hcount_nil n _).mono ?_; rintro e w8 ⟨rfl, hw⟩; rw [hw]; clear hw w8))
  go_ret
  exact ⟨rfl, unhide HB7⟩
end Go.Proofs.YteokbefcdpjkaaaGreatDoor

/- What the rows' frames share: the tables that the rows list, a start that fits. -/
namespace Go.Proofs.YteokbefcdpjkaaaGreatDoor
open Go.ChangeShapes Go.WideShapes Go.ChangeAt Go.RowKit

theorem i64_of {a : Int} (h : (Lit.int .i64 a).wf = true) : L5.I64 a := by
  have h2 : -9223372036854775808 ≤ a ∧ a ≤ 9223372036854775807 := by simpa [Lit.wf, IntKind.min, IntKind.max, IntKind.signed, IntKind.bits] using h
  exact h2
theorem own : ownKnob Tryz.prog.godebug = none := by kernel_rfl
theorem laidOut : laidOutB Tryz.prog = true := by kernel_rfl
/-- the name of the table, as the rows give it -/
def tabName : String := Rows.heapNilRow.named.headD Rows.heapNilRow.func
theorem gTab : Tryz.prog.globalNamed tabName = some 0 := by kernel_rfl
theorem gTabType : (Tryz.prog.globals[0]?).map (·.type) = some 238 := by kernel_rfl
theorem cells238 : Tryz.prog.cellsOf 238 = 16 := by kernel_rfl
theorem cells169 : Tryz.prog.cellsOf 169 = 1 := by kernel_rfl
theorem table {W : World} (h : laidMetH Tryz.prog Rows.heapNilRow.laid W) : L4.Tab W := by
  have t : Lib.TabIs Tryz.prog W tabName .u32 (L4.Crc.tabN.map fun n : Nat => (n : Int)) :=
    Lib.tabIs_of_head (rest := Rows.heapNilRow.laid.tail) gTab gTabType Tryz.underlying238 Tryz.underlying169 cells169 cells238 h
  intro i hi
  have c := t.cell gTab i (by simpa [L4.Crc.tabN] using hi)
  rw [c]
  have e : ∀ j : Fin 16, (L4.Crc.tabN.map fun n : Nat => (n : Int)).getD j.val 0 = (L4.Crc.tab j.val : Int) := by decide
  rw [e ⟨i, hi⟩]


/-- the library's two tables, for a start that fits -/
def firstN : List Nat := List.replicate 128 240 ++ List.replicate 66 241 ++ List.replicate 30 2 ++ [19] ++ List.replicate 12 3 ++ [35] ++ List.replicate 2 3 ++ [52] ++ List.replicate 3 4 ++ [68] ++ List.replicate 11 241
def rangeN : List Nat := [128, 191, 160, 191, 128, 159, 144, 191, 128, 143] ++ List.replicate 22 0
end Go.Proofs.YteokbefcdpjkaaaGreatDoor
