/- Slices of a row of pieces, wherever it begins. -/
import Derived.Test.YtmpgaecnibakdaaDoorCd
namespace Go.Proofs.YtmpgaecnibakdaaDoor
open Go.ChangeShapes Go.WideShapes Go.ChangeAt Go.RowKit
attribute [local go_sem] Oper.semAt_some

theorem size58 (w : World) : (sizeOf 58).run Tryd.prog w = .ok 2 w := by
  obtain ⟨i0, hi, hz0, hz1, hz2⟩ := info_parts info58
  simp [sizeOf, typeInfo, hi, hz1]
theorem under22 : Tryd.prog.underlying 22 = some (.slice (Tryd.prog.elem 22)) := by kernel_rfl
theorem run_part (w : World) (a : Option Addr) (n cap i j : Nat) (hij : i ≤ j) (hj : j ≤ cap) :
    (Instr.sliceAt 22 (.slice a n cap) (some (.int .i64 (i : Int))) (some (.int .i64 (j : Int))) none).run Tryd.prog w = .ok (.slice (restA a cap i) (j - i) (cap - i)) w := by
  rw [run_sliceAt_slice _ _ _ _ _ _ under22, run_slice_lh _ _ _ _ _ under22 _ _ _ _ (by omega) (by omega) (by omega), show Tryd.prog.elem 22 = 58 from by kernel_rfl, size58]
  rfl
theorem run_rest (w : World) (a : Option Addr) (n cap i : Nat) (hi : i ≤ n) :
    (Instr.sliceAt 22 (.slice a n cap) (some (.int .i64 (i : Int))) none none).run Tryd.prog w = .ok (.slice (restA a cap i) (n - i) (cap - i)) w := by
  rw [run_sliceAt_slice _ _ _ _ _ _ under22, run_slice_l _ _ _ _ _ under22 _ _ (by omega) (by omega), show Tryd.prog.elem 22 = 58 from by kernel_rfl, size58]
  simp [Result.andThen, sliced, restA]
theorem run_front (w : World) (a : Option Addr) (n cap j : Nat) (hj : j ≤ cap) :
    (Instr.sliceAt 22 (.slice a n cap) none (some (.int .i64 (j : Int))) none).run Tryd.prog w = .ok (.slice a j cap) w := by
  rw [run_sliceAt_slice _ _ _ _ _ _ under22, run_slice_h _ _ _ _ _ under22 _ _ (by omega) (by omega), show Tryd.prog.elem 22 = 58 from by kernel_rfl, size58]
  cases a with
  | none => simp [Result.andThen, sliced]
  | some x => simp [Result.andThen, sliced, Addr.add]
theorem slice_part {ops : Array Oper} {rest : List Oper} {o : Oper} {a : Act} {Q : Exit → Act → World → Prop} {w : World} {ad : Option Addr} {n cap i j : Nat}
    (hwant : Region.wanted o (yielded ops a.tmps) = true) (x y z : Operand) (ho : o.op = .slice 22 x (some y) (some z) none)
    (hx : a.eval x = .slice ad n cap) (hy : a.eval y = .int .i64 (i : Int)) (hz : a.eval z = .int .i64 (j : Int)) (hij : i ≤ j) (hj : j ≤ cap) {m : Nat} (hm : j - i = m)
    (hk : ∀ A c, A = restA ad cap i → c = cap - i → wpList Tryd.prog ops Q rest (a.put o.dst (.slice A m c)) w) : wpList Tryd.prog ops Q (o :: rest) a w := by
  have hr := run_part w ad n cap i j hij hj
  subst hm
  refine BigFrame.wpList_want hwant fun K hK => ?_
  unfold Oper.wp execOp
  simp only [ho, Sem.run_bind, Sem.run_pure, Result.andThen_ok, Option.map_some, Option.map_none, hx, hy, hz, hr]
  exact hK _ _ (hk _ _ rfl rfl)
theorem slice_rest {ops : Array Oper} {rest : List Oper} {o : Oper} {a : Act} {Q : Exit → Act → World → Prop} {w : World} {ad : Option Addr} {n cap i : Nat}
    (hwant : Region.wanted o (yielded ops a.tmps) = true) (x y : Operand) (ho : o.op = .slice 22 x (some y) none none)
    (hx : a.eval x = .slice ad n cap) (hy : a.eval y = .int .i64 (i : Int)) (hi : i ≤ n) {m : Nat} (hm : n - i = m)
    (hk : ∀ A c, A = restA ad cap i → c = cap - i → wpList Tryd.prog ops Q rest (a.put o.dst (.slice A m c)) w) : wpList Tryd.prog ops Q (o :: rest) a w := by
  have hr := run_rest w ad n cap i hi
  subst hm
  refine BigFrame.wpList_want hwant fun K hK => ?_
  unfold Oper.wp execOp
  simp only [ho, Sem.run_bind, Sem.run_pure, Result.andThen_ok, Option.map_some, Option.map_none, hx, hy, hr]
  exact hK _ _ (hk _ _ rfl rfl)
theorem slice_front {ops : Array Oper} {rest : List Oper} {o : Oper} {a : Act} {Q : Exit → Act → World → Prop} {w : World} {ad : Option Addr} {n cap j : Nat}
    (hwant : Region.wanted o (yielded ops a.tmps) = true) (x z : Operand) (ho : o.op = .slice 22 x none (some z) none)
    (hx : a.eval x = .slice ad n cap) (hz : a.eval z = .int .i64 (j : Int)) (hj : j ≤ cap)
    (hk : wpList Tryd.prog ops Q rest (a.put o.dst (.slice ad j cap)) w) : wpList Tryd.prog ops Q (o :: rest) a w := by
  have hr := run_front w ad n cap j hj
  refine BigFrame.wpList_want hwant fun K hK => ?_
  unfold Oper.wp execOp
  simp only [ho, Sem.run_bind, Sem.run_pure, Result.andThen_ok, Option.map_some, Option.map_none, hx, hz, hr]
  exact hK _ _ hk
end Go.Proofs.YtmpgaecnibakdaaDoor
