/- append of a row that came in, to an empty row of one's own. -/
import Derived.Test.YtoogcejbhehoaaaDoorAw
namespace Go.Proofs.YtoogcejbhehoaaaDoor
open Go.ChangeShapes Go.WideShapes Go.ChangeAt Go.RowKit

theorem run_app_ls (w : World) (B : Nat) (ty : TypeId) (v : Value) (hown : Own B w v []) (a : Option Addr) (cap : Nat) (ns : List (List UInt8)) (hl : Ls w a ns) (hlen : ns.length ≤ 1000) (hB : B ≤ w.heap.size) :
    ∃ a2 cap2 w', (Builtin.append_ #[23, 23] ty #[v, .slice a ns.length cap]).run Tryd.prog w = .ok (.slice a2 ns.length cap2) w' ∧ Own B w' (.slice a2 ns.length cap2) ns ∧ w.grownBy w' v.ownBlock := by
  obtain ⟨i0, hi, hz0, hz1, hz2⟩ := info_parts info9
  rcases hl.2 with h0 | ⟨b, off, rfl, _, hc⟩
  · obtain rfl := List.length_eq_zero_iff.1 h0
    obtain ⟨a2, cap2, rfl⟩ := hown.form
    refine ⟨a2, cap2, w, ?_, hown, ⟨rfl, rfl, rfl, Nat.le_refl _, fun _ _ _ => rfl⟩⟩
    rcases hown.2 with ⟨hv, hn⟩ | ⟨g, cp, cur, hv, _, _, hnc, _⟩
    · injection hv with h1 h2 h3
      subst h1 h3
      cases a <;> simp [Builtin.append_, run_underlying Tryd.underlying23, sizeOf, typeInfo, hi, Builtin.lenOf, Builtin.firstCells, loadCells, loadCellsFrom]
    · injection hv with h1 h2 h3
      subst h1 h3
      cases a <;> simp [Builtin.append_, run_underlying Tryd.underlying23, sizeOf, typeInfo, hi, Builtin.lenOf, Builtin.firstCells, storeCells, loadCells, loadCellsFrom]
  · obtain ⟨v', w', hr, ho', hg, _⟩ := run_append_own (P := Tryd.prog) w B 23 ty 9 i0 (.string ⟨#[]⟩) 1 16 Tryd.underlying23 hi hz0 hz1 hz2 rfl (by decide) v 0 [] hown ⟨b, off, none⟩ ns.length cap (cells ns) (by simp [cells])
      (fun j u hj => by
        rw [Go.WideShapes.add_plain]
        have hj' : j < ns.length := by
          have := (List.getElem?_eq_some_iff.1 hj).1
          rw [cells_length] at this
          exact this
        rw [hc j hj']
        rw [← hj]
        simp [cells, hj'])
      (fun u hu => by
        simp only [cells, List.mem_map] at hu
        obtain ⟨x, _, rfl⟩ := hu
        rfl) (by unfold maxLen; omega) (by omega) (by omega)
    rw [Nat.zero_add, List.nil_append] at ho'
    obtain ⟨a2, cap2, rfl⟩ := Own.form ho'
    exact ⟨a2, cap2, w', hr, ho', hg⟩

theorem app_ls {ops : Array Oper} {rest : List Oper} {o : Oper} {a : Act} {Q : Exit → Act → World → Prop} {B : Nat} {w : World} {v : Value} {src : Option Addr} {cap : Nat} {ns : List (List UInt8)}
    (hwant : Region.wanted o (yielded ops a.tmps) = true) (s y : Operand) (ho : o.op = .call { callee := .builtin .append, args := #[s, y], argTypes := #[23, 23] })
    (hs : a.eval s = v) (hx : a.eval y = .slice src ns.length cap) (hown : Own B w v []) (hl : Ls w src ns) (hlen : ns.length ≤ 1000) (hB : B ≤ w.heap.size)
    (h : ∀ a2 cap2 w', Own B w' (.slice a2 ns.length cap2) ns → w.grownBy w' v.ownBlock → wpList Tryd.prog ops Q rest (a.put o.dst (.slice a2 ns.length cap2)) w') :
    wpList Tryd.prog ops Q (o :: rest) a w := by
  obtain ⟨a2, cap2, w', hr, ho', hg⟩ := run_app_ls w B o.type v hown src cap ns hl hlen hB
  refine BigFrame.wpList_want hwant fun K hK => ?_
  unfold Oper.wp execOp
  simp only [ho, resolve, invoke, builtin, Sem.run_bind, Sem.run_pure, Result.andThen_ok, List.map_toArray, List.map_cons, List.map_nil, hs, hx, hr]
  exact hK _ _ (h a2 cap2 w' ho' hg)
/-- an empty row in new memory -/
theorem Own.empty (w : World) : Own w.heap.size (w.alloc (.cells #[] 9)) (.slice (some ⟨w.heap.size, 0, none⟩) 0 0) [] :=
  World.ownsRow_made w #[] 0 (Nat.le_refl _) (Nat.zero_le _) (by simp)
end Go.Proofs.YtoogcejbhehoaaaDoor
