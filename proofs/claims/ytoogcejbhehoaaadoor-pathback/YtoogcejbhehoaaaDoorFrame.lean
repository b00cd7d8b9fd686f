/- What the rows' frames share: a row of texts that came in, the tables and the two errors that the rows list, a start that fits. -/
import Derived.Test.YtoogcejbhehoaaaDoorOr
import Derived.Test.YtoogcejbhehoaaaDoorCards
import Derived.Test.YtoogcejbhehoaaaDoorTie
import Derived.ShutString
import Derived.ChangeOld
import Derived.Below
import Derived.SliceStrings
import Derived.Stop.LaidErr
import Derived.Deep.Slices
import Derived.Deep.DeepHandedRow
import Derived.Lib.LaidTab
import Derived.Lib.SmallJoins
namespace Go.Proofs.YtoogcejbhehoaaaDoor
open Go.ChangeShapes Go.WideShapes Go.ChangeAt Go.RowKit Go.Deep

theorem own : ownKnob Tryd.prog.godebug = none := by kernel_rfl
theorem laidOut : laidOutB Tryd.prog = true := by kernel_rfl
theorem gTabType : (Tryd.prog.globals[3]?).map (·.type) = some 87 := by kernel_rfl
theorem cells87 : Tryd.prog.cellsOf 87 = 20 := by kernel_rfl
theorem cells73 : Tryd.prog.cellsOf 73 = 1 := by kernel_rfl
theorem cells94 : Tryd.prog.cellsOf 94 = 1 := by kernel_rfl
theorem cells9 : Tryd.prog.cellsOf 9 = 1 := by kernel_rfl
theorem gES : Tryd.prog.globalNamed "strconv.ErrSyntax" = some 1 := by kernel_rfl
theorem gESType : (Tryd.prog.globals[1]?).map (·.type) = some 51 := by kernel_rfl
theorem gER : Tryd.prog.globalNamed "strconv.ErrRange" = some 2 := by kernel_rfl
theorem gERType : (Tryd.prog.globals[2]?).map (·.type) = some 51 := by kernel_rfl
/-- the error's pointer type, as the rows name it -/
def errNm : String := match Rows.laid_strconv_ErrRange (H := Unit) with
  | .iface n _ => n
  | _ => Rows.pathSplitsRow.func
theorem rowE (u : TypeId) (h : Tryd.prog.typeName? 3 u = some errNm) : u = 92 :=
  typeName_ptr_named (nm := "errors.errorString") (by kernel_rfl) (by kernel_rfl) (by decide) u (h.trans (congrArg some (by kernel_rfl)))

abbrev Laid5 : List (String × DataW Unit) := Rows.pathSplitsRow.laid
abbrev Laid3 : List (String × DataW Unit) := Rows.pathJoinsRow.laid
theorem table {W : World} {r : List (String × DataW Unit)} (h : laidMet Tryd.prog (Laid3 ++ r) W) : Tb W :=
  Lib.tabIs_of_head (rest := r) gTab gTabType Tryd.underlying87 Tryd.underlying73 cells73 cells87 h.tail.tail
theorem errors {W : World} (h : laidMet Tryd.prog Laid5 W) : Er W := by
  have h4 := h.tail.tail.tail
  obtain ⟨a0, s0, hv0, -, -, -⟩ := laid_sentinel h4 gER gERType Tryd.underlying51 rowE Tryd.underlying92 Tryd.underlying94 rfl rfl Tryd.underlying9 cells94 cells9
  obtain ⟨a1, s1, hv1, -, -, -⟩ := laid_sentinel h4.tail gES gESType Tryd.underlying51 rowE Tryd.underlying92 Tryd.underlying94 rfl rfl Tryd.underlying9 cells94 cells9
  exact ⟨⟨_, _, by have h0 := World.var?_cell gES hv1 0; simpa using h0⟩, ⟨_, _, by have h0 := World.var?_cell gER hv0 0; simpa using h0⟩⟩

theorem i64_in {n : Int} (h : (Lit.int .i64 n).wf = true) : -9223372036854775808 ≤ n ∧ n ≤ 9223372036854775807 := by
  have := bounds_i64 h
  omega
theorem len_of {s : ByteArray} (h : s.size ≤ maxLen) : s.size ≤ 9223372036854775807 := by unfold maxLen at h; exact h

/-- texts that came in -/
theorem strs_of {H : Type} {enc : TypeId × Value → H} {W : World} {a : Option Addr} {len cap : Nat} {d : DataW H} {p : List MemPlace} (h : DataW.Trod enc Tryd.prog W 0 (fun _ => true) true 23 (Value.slice a len cap) d p) :
    ∃ ns, len = List.length ns ∧ Ls W a ns ∧ ∀ i, (ns.getD i []).length ≤ 9223372036854775807 := by
  obtain ⟨fuel, hf⟩ := h
  rcases open_strings Tryd.underlying23 Tryd.underlying9 (by kernel_rfl) hf with ⟨hcs, _⟩ | ⟨x, l, c, ss, hcs, _, hl, hm, hz, _, hcell, hws⟩
  · simp [Value.cells] at hcs
    obtain ⟨rfl, rfl, rfl⟩ := hcs
    exact ⟨[], rfl, Ls.nil _ _, by simp⟩
  · simp [Value.cells] at hcs
    obtain ⟨rfl, rfl, rfl⟩ := hcs
    have hzl : ss.length = cap := by simpa using hz
    have hlb : len ≤ 9223372036854775807 := by unfold maxLen at hm; omega
    refine ⟨(ss.take len).map bs, by rw [List.length_map, List.length_take]; omega, ⟨by rw [List.length_map, List.length_take]; omega, ?_⟩, ?_⟩
    · by_cases h0 : len = 0
      · exact .inl (by rw [List.length_map, List.length_take]; omega)
      · obtain ⟨b, off, spot⟩ := x
        have hspot : spot = none := by simpa [Addr.add] using World.cell?_spot (hcell 0 (by omega))
        subst hspot
        have hat : ∀ i (hi : i < ss.length), W.cell? ⟨b, off + i, none⟩ = some (.string ss[i]) := by
          intro i hi
          have := hcell i hi
          rw [Go.WideShapes.add_plain] at this
          have e : ss.getD i ByteArray.empty = ss[i] := by rw [List.getD_eq_getElem?_getD, List.getElem?_eq_getElem hi]; rfl
          first | exact this | (rw [← e]; exact this)
        refine .inr ⟨b, off, rfl, World.block_lt_of_cell? W _ (hat 0 (by omega)), fun i hi => ?_⟩
        rw [List.length_map, List.length_take] at hi
        rw [hat i (by omega)]
        have e2 : ((ss.take len).map bs).getD i [] = bs ss[i] := by
          rw [List.getD_eq_getElem?_getD, List.getElem?_map, List.getElem?_take, if_pos (by omega), List.getElem?_eq_getElem (by omega)]
          rfl
        rw [e2, tx_bs]
    · intro i
      by_cases hi : i < ((ss.take len).map bs).length
      · rw [List.getD_eq_getElem?_getD, List.getElem?_eq_getElem hi, Option.getD_some, List.getElem_map, bs_len]
        exact len_of (hws _ (List.mem_of_mem_take (List.getElem_mem _)))
      · rw [List.getD_eq_getElem?_getD, List.getElem?_eq_none (by omega)]
        simp

/-- the tables, and the errors' texts, for a start that fits -/
def powN : List Nat := [1, 10, 100, 1000, 10000, 100000, 1000000, 10000000, 100000000, 1000000000, 10000000000, 100000000000, 1000000000000, 10000000000000, 100000000000000, 1000000000000000, 10000000000000000, 100000000000000000, 1000000000000000000, 10000000000000000000]
def dbA : List Nat := [0, 1, 28, 2, 29, 14, 24, 3, 30, 22, 20, 15, 25, 17, 4, 8, 31, 27, 13, 23, 21, 19, 16, 7, 26, 12, 18, 6, 11, 5, 10, 9]
def dbB : List Nat := [0, 1, 56, 2, 57, 49, 28, 3, 61, 58, 42, 50, 38, 29, 17, 4, 62, 47, 59, 36, 45, 43, 51, 22, 53, 39, 33, 30, 24, 18, 12, 5, 63, 55, 48, 27, 60, 41, 37, 16, 46, 35, 44, 21, 52, 32, 23, 11, 54, 26, 40, 15, 34, 20, 31, 10, 25, 14, 19, 9, 13, 8, 7, 6]
def synS : ByteArray := { data := #[105, 110, 118, 97, 108, 105, 100, 32, 115, 121, 110, 116, 97, 120] }
def rngS : ByteArray := { data := #[118, 97, 108, 117, 101, 32, 111, 117, 116, 32, 111, 102, 32, 114, 97, 110, 103, 101] }
end Go.Proofs.YtoogcejbhehoaaaDoor
