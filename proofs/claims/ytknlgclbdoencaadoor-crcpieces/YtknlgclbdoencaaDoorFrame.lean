/- What the rows' frames share: a slice of bytes that came in, the table that the row lists, a start that fits. -/
import Derived.Test.YtknlgclbdoencaaDoorParts
import Derived.Test.YtknlgclbdoencaaDoorCards
import Derived.Test.YtknlgclbdoencaaDoorTie
import Derived.ShutString
import Derived.ChangeOld
import Derived.Below
import Derived.Deep.DeepHandedRow
import Derived.Lib.LaidTab
namespace Go.Proofs.YtknlgclbdoencaaDoor
open Go.ChangeShapes Go.WideShapes Go.ChangeAt Go.RowKit

theorem own : ownKnob Tryd.prog.godebug = none := by kernel_rfl
theorem laidOut : laidOutB Tryd.prog = true := by kernel_rfl
/-- the name of the table, as the rows give it -/
def tabName : String := Rows.crcSumsRow.named.headD Rows.crcSumsRow.func
theorem gTab : Tryd.prog.globalNamed tabName = some 0 := by kernel_rfl
theorem gTabType : (Tryd.prog.globals[0]?).map (·.type) = some 38 := by kernel_rfl
theorem cells38 : Tryd.prog.cellsOf 38 = 16 := by kernel_rfl
theorem cells22 : Tryd.prog.cellsOf 22 = 1 := by kernel_rfl

/-- what every row of this seat lists -/
def laidList : List (String × DataW Unit) := [(tabName, Rows.laid_coppice_crc_halves)]
theorem table {W : World} (h : laidMetH Tryd.prog laidList W) : Tab W := by
  have t : Lib.TabIs Tryd.prog W tabName .u32 (Crc.tabN.map fun n : Nat => (n : Int)) :=
    Lib.tabIs_of_head (rest := []) gTab gTabType Tryd.underlying38 Tryd.underlying22 cells22 cells38 h
  intro i hi
  have c := t.cell gTab i (by simpa [Crc.tabN] using hi)
  rw [c]
  have e : ∀ j : Fin 16, (Crc.tabN.map fun n : Nat => (n : Int)).getD j.val 0 = (Crc.tab j.val : Int) := by decide
  rw [e ⟨i, hi⟩]

/-- a slice of bytes that came in -/
def IsRow (w : World) (a : Option Addr) (len cap : Nat) (zs : List Int) : Prop :=
  (a = none ∧ len = 0 ∧ cap = 0 ∧ zs = []) ∨
  ∃ x, a = some x ∧ len ≤ cap ∧ cap ≤ maxLen ∧ zs.length = cap ∧ (∀ i, i < zs.length → w.cell? (x.add i) = some (.int .u8 (zs.getD i 0))) ∧ ∀ n ∈ zs, (Lit.int .u8 n).wf = true

theorem row_of {H : Type} {enc : TypeId × Value → H} {W : World} {a : Option Addr} {len cap : Nat} {d : DataW H} {p : List MemPlace} (h : DataW.Trod enc Tryd.prog W 0 (fun _ => true) true 23 (Value.slice a len cap) d p) :
    ∃ zs, IsRow W a len cap zs := by
  obtain ⟨fuel, hf⟩ := h
  rcases open_ints Tryd.underlying23 Tryd.underlying5 (by kernel_rfl) hf with ⟨hcs, _⟩ | ⟨x, l, c, zs, hcs, _, hl, hm, hz, _, hcell, hwz⟩
  · simp [Value.cells] at hcs
    obtain ⟨rfl, rfl, rfl⟩ := hcs
    exact ⟨[], .inl ⟨rfl, rfl, rfl, rfl⟩⟩
  · simp [Value.cells] at hcs
    obtain ⟨rfl, rfl, rfl⟩ := hcs
    exact ⟨zs, .inr ⟨_, rfl, hl, hm, by simpa using hz, hcell, hwz⟩⟩

theorem IsRow.len {w : World} {a : Option Addr} {len cap : Nat} {zs : List Int} (h : IsRow w a len cap zs) : len ≤ 9223372036854775807 := by
  rcases h with ⟨_, rfl, _⟩ | ⟨x, _, h1, h2, _⟩
  · decide
  · unfold maxLen at h2; omega
theorem IsRow.byt {w : World} {a : Option Addr} {len cap : Nat} {zs : List Int} (h : IsRow w a len cap zs) :
    ∃ l : List Nat, l.length = len ∧ (∀ b ∈ l, b < 256) ∧ Byt w (.slice a l.length cap) l := by
  rcases h with ⟨rfl, rfl, rfl, rfl⟩ | ⟨x, rfl, h1, _, h3, hc, hw⟩
  · exact ⟨[], rfl, by simp, .inl ⟨rfl, none, 0, rfl⟩⟩
  · have wf : ∀ n ∈ zs, 0 ≤ n ∧ n ≤ 255 := fun n hn => by simpa [Lit.wf, IntKind.min, IntKind.max, IntKind.signed, IntKind.bits] using hw n hn
    have hlen : ((zs.take len).map Int.toNat).length = len := by simp; omega
    refine ⟨(zs.take len).map Int.toNat, hlen, ?_, ?_⟩
    · intro b hb
      obtain ⟨n, hn, rfl⟩ := List.mem_map.1 hb
      have := wf n (List.mem_of_mem_take hn)
      omega
    · by_cases h0 : len = 0
      · subst h0
        exact .inl ⟨by simp, some x, cap, by simp⟩
      · obtain ⟨b, off, rfl, hcell⟩ := ints_at hc (by omega)
        refine .inr ⟨b, off, cap, rfl, fun i hi => ?_⟩
        rw [hlen] at hi
        rw [hcell i (by omega)]
        have hiz : i < zs.length := by omega
        have := wf _ (List.getElem_mem hiz)
        simp [hi, List.getElem?_eq_getElem hiz]
        omega
end Go.Proofs.YtknlgclbdoencaaDoor
