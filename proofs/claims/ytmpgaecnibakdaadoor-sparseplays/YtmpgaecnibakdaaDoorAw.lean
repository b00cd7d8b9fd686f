/- awake: the document's example; the same pieces are the same; what the laws' walks share. -/
import Derived.Test.YtmpgaecnibakdaaDoorDn
namespace Go.Proofs.YtmpgaecnibakdaaDoor
open Go.ChangeShapes Go.WideShapes Go.ChangeAt Go.RowKit
attribute [local go_sem] Oper.semAt_some

def exD : List UInt8 := List.replicate 8 0 ++ 120 :: List.replicate 55 0
theorem ex_write : writeA [] 0 200 [120] = ([(3, exD)], 201, 0) := by decide +kernel
theorem exD_len : exD.length = 64 := by decide +kernel
theorem exD_at : exD.getD 8 0 = 120 := by decide +kernel
theorem txX : tx [120] = { data := #[120] } := rfl

set_option maxHeartbeats 4000000 in
set_option maxRecDepth 10000 in
theorem awake_any (w : World) : Calls Tryd.prog 9 #[] w fun e w' => e = .returned (.bool true) ∧ Below w.heap.size w w' := by
  have HW := hide (write_any none 0 [] 0 200 [120] w (Ps.nil w none) (by simp) (by simp) (by simp) (by omega) (by simp))
  rw [ex_write, txX] at HW
  obtain ⟨X, hX⟩ : ∃ X, X = exD := ⟨_, rfl⟩
  have hz : (tx X).size = 64 := by rw [hX, tx_size]; exact exD_len
  have hat := tx_at X 8 (by omega)
  rw [show X.getD 8 0 = 120 by rw [hX]; exact exD_at] at hat
  rw [← hX] at HW
  clear hX
  go_enter Tryd.func9, Tryd.ntmps9
  go_wp2_with fail
  refine (unhide HW).mono ?_
  rintro e w1 ⟨⟨v, rfl, ho⟩, hb⟩
  have HB := hide hb
  clear hb HW
  obtain ⟨a, c, rfl⟩ := ho.form
  obtain ⟨b, off, rfl, c0, c1, c2⟩ := (OwnP.ps ho).get (i := 0) rfl
  have e0 := c0
  have e1 := c2
  simp only [Nat.zero_mul, Nat.add_zero] at e0 e1
  clear ho
  go_wp2
  go_ret
  exact ⟨rfl, unhide HB⟩
theorem same_self (a a' : Option Addr) (c c' : Nat) (l : List Pc) (w : World) (hr : Ps w a l) (hr' : Ps w a' l) (hl : l.length ≤ 9223372036854775807) :
    Calls Tryd.prog 16 #[.slice a l.length c, .slice a' l.length c'] w fun e w' => e = .returned (.bool true) ∧ Below w.heap.size w w' := by
  have := same_any a a' c c' l l w hr hr' hl
  rwa [decide_eq_true rfl] at this
end Go.Proofs.YtmpgaecnibakdaaDoor
