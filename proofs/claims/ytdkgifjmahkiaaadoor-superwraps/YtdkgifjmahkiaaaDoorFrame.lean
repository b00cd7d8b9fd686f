/- What the rows' frames share: a block that came in, the tables that the rows list, a start that fits. -/
import Derived.Test.YtdkgifjmahkiaaaDoorL4Step
import Derived.Test.YtdkgifjmahkiaaaDoorCards
import Derived.Test.YtdkgifjmahkiaaaDoorTie
import Derived.ShutString
import Derived.ChangeOld
import Derived.Below
import Derived.Deep.DeepHandedRow
import Derived.Lib.LaidTab
import Derived.Lib.SmallJoins
namespace Go.Proofs.YtdkgifjmahkiaaaDoor
open Go.ChangeShapes Go.WideShapes Go.ChangeAt Go.RowKit
open L4

theorem own : ownKnob Tryd.prog.godebug = none := by kernel_rfl
theorem laidOut : laidOutB Tryd.prog = true := by kernel_rfl
/-- the name of the table, as the rows give it -/
def tabName : String := Rows.superWrapsRow.named.headD Rows.superWrapsRow.func
theorem gTab : Tryd.prog.globalNamed tabName = some 0 := by kernel_rfl
theorem gTabType : (Tryd.prog.globals[0]?).map (·.type) = some 110 := by kernel_rfl
theorem cellsT : Tryd.prog.cellsOf 110 = 16 := by kernel_rfl
theorem cellsU : Tryd.prog.cellsOf 53 = 1 := by kernel_rfl
theorem cellsB : Tryd.prog.cellsOf 33 = 3 := by kernel_rfl

theorem table {W : World} (h : laidMetH Tryd.prog Rows.superWrapsRow.laid W) : Tab W := by
  have t : Lib.TabIs Tryd.prog W tabName .u32 (Crc.tabN.map fun n : Nat => (n : Int)) :=
    Lib.tabIs_of_head (rest := Rows.superWrapsRow.laid.tail) gTab gTabType Tryd.underlying110 Tryd.underlying53 cellsU cellsT h
  intro i hi
  have c := t.cell gTab i (by simpa [Crc.tabN] using hi)
  rw [c]
  have e : ∀ j : Fin 16, (Crc.tabN.map fun n : Nat => (n : Int)).getD j.val 0 = (Crc.tab j.val : Int) := by decide
  rw [e ⟨i, hi⟩]


set_option maxRecDepth 100000 in
theorem block_of {H : Type} {enc : TypeId × Value → H} {W : World} {base : Nat} {v : Value} {d : DataW H} {p : List MemPlace} (hv : Value.okWide Tryd.prog W .any base 33 v) (h : DataW.Trod enc Tryd.prog W 0 (fun _ => true) true 33 v d p) :
    ∃ (K G : Int) (P : ByteArray), v = .agg #[.int .i64 K, .int .i64 G, .string P] ∧ P.size ≤ 9223372036854775807 := by
  obtain ⟨c0, c1, c2, y0, y1, y2, m, rfl, rfl, rfl, h0, h1, h2⟩ := Joins.open_agg3 Tryd.underlying33 (by kernel_rfl) cellsB hv h
  obtain ⟨K, e0, _, _⟩ := DataW.trod_int Tryd.underlying3 h0
  obtain ⟨G, e1, _, _⟩ := DataW.trod_int Tryd.underlying3 h1
  obtain ⟨P, e2, _, hP⟩ := DataW.trod_string Tryd.underlying9 h2
  simp at e0 e1 e2
  subst e0 e1 e2
  exact ⟨K, G, P, rfl, by unfold maxLen at hP; exact hP⟩

theorem cellsS : Tryd.prog.cellsOf 23 = 3 := by kernel_rfl
set_option maxRecDepth 100000 in
theorem super_of {H : Type} {enc : TypeId × Value → H} {W : World} {base : Nat} {v : Value} {d : DataW H} {p : List MemPlace} (hv : Value.okWide Tryd.prog W .any base 23 v) (h : DataW.Trod enc Tryd.prog W 0 (fun _ => true) true 23 v d p) :
    ∃ (G R S : Int), v = .agg #[.int .i64 G, .int .i64 R, .int .i64 S] := by
  obtain ⟨c0, c1, c2, y0, y1, y2, m, rfl, rfl, rfl, h0, h1, h2⟩ := Joins.open_agg3 Tryd.underlying23 (by kernel_rfl) cellsS hv h
  obtain ⟨G, e0, _, _⟩ := DataW.trod_int Tryd.underlying3 h0
  obtain ⟨R, e1, _, _⟩ := DataW.trod_int Tryd.underlying3 h1
  obtain ⟨S, e2, _, _⟩ := DataW.trod_int Tryd.underlying3 h2
  simp at e0 e1 e2
  subst e0 e1 e2
  exact ⟨G, R, S, rfl⟩

theorem len_of {s : ByteArray} (h : s.size ≤ maxLen) : s.size ≤ 9223372036854775807 := by unfold maxLen at h; exact h
theorem u32_of {a : Int} (h : (Lit.int .u32 a).wf = true) : 0 ≤ a ∧ a < 4294967296 := by
  have h2 : 0 ≤ a ∧ a ≤ 4294967295 := by simpa [Lit.wf, IntKind.min, IntKind.max, IntKind.signed, IntKind.bits] using h
  exact ⟨h2.1, by omega⟩

/-- the library's two tables, for a start that fits -/
def firstN : List Nat := List.replicate 128 240 ++ List.replicate 66 241 ++ List.replicate 30 2 ++ [19] ++ List.replicate 12 3 ++ [35] ++ List.replicate 2 3 ++ [52] ++ List.replicate 3 4 ++ [68] ++ List.replicate 11 241
def rangeN : List Nat := [128, 191, 160, 191, 128, 159, 144, 191, 128, 143] ++ List.replicate 22 0
end Go.Proofs.YtdkgifjmahkiaaaDoor
