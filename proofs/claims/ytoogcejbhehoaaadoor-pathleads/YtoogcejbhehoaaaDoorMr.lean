/- Where a rune stands among bytes. -/
import Derived.Test.YtoogcejbhehoaaaDoorMa
import Derived.Lib.DecodeN
import Derived.Lib.TrimUEq
import Derived.Lib.SpaceUEq
namespace Go.Proofs.YtoogcejbhehoaaaDoor
/-! ### runes -/
/-- at a byte of ASCII a rune is that byte; at another one a rune is beyond it, and so are its bytes -/
theorem rune_at (s : ByteArray) (pos : Nat) (h : pos < s.data.toList.length) :
    ((s.data.toList.getD pos 0).toNat < 128 → Utf8.decode s pos = ((s.data.toList.getD pos 0).toNat, 1)) ∧
    (128 ≤ (s.data.toList.getD pos 0).toNat → 128 ≤ (Utf8.decode s pos).1 ∧ 1 ≤ (Utf8.decode s pos).2 ∧ pos + (Utf8.decode s pos).2 ≤ s.data.toList.length ∧ ∀ j, pos ≤ j → j < pos + (Utf8.decode s pos).2 → 128 ≤ (s.data.toList.getD j 0).toNat) := by
  rw [Lib.decode_N]
  refine ⟨fun h0 => Lib.decodeN_ascii _ _ _ _ _ h0, fun h0 => ?_⟩
  have hc := Lib.decodeN_conts (s.data.toList.length - pos) (s.data.toList.getD pos 0).toNat (s.data.toList.getD (pos + 1) 0).toNat (s.data.toList.getD (pos + 2) 0).toNat (s.data.toList.getD (pos + 3) 0).toNat
  have h1 := Lib.decodeN_ge1 (s.data.toList.length - pos) (s.data.toList.getD pos 0).toNat (s.data.toList.getD (pos + 1) 0).toNat (s.data.toList.getD (pos + 2) 0).toNat (s.data.toList.getD (pos + 3) 0).toNat
  have h2 : 128 ≤ (Lib.decodeN (s.data.toList.length - pos) (s.data.toList.getD pos 0).toNat (s.data.toList.getD (pos + 1) 0).toNat (s.data.toList.getD (pos + 2) 0).toNat (s.data.toList.getD (pos + 3) 0).toNat).1 := by
    unfold Lib.decodeN
    rw [if_neg (by omega)]
    repeat' split
    all_goals (simp only; omega)
  generalize Lib.decodeN (s.data.toList.length - pos) (s.data.toList.getD pos 0).toNat (s.data.toList.getD (pos + 1) 0).toNat (s.data.toList.getD (pos + 2) 0).toNat (s.data.toList.getD (pos + 3) 0).toNat = d at *
  obtain ⟨c2, c3, c4, c5⟩ := hc
  refine ⟨h2, h1, by omega, fun j hj1 hj2 => ?_⟩
  obtain rfl | rfl | rfl | rfl : j = pos ∨ j = pos + 1 ∨ j = pos + 2 ∨ j = pos + 3 := by omega
  · exact h0
  · have := (c2 (by omega)).1; omega
  · have := (c3 (by omega)).1; omega
  · have := (c4 (by omega)).1; omega
end Go.Proofs.YtoogcejbhehoaaaDoor
