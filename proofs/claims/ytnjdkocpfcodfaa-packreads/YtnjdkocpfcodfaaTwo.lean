/- Two readers beside one another: the program's and the document's, at the same place with the same error. -/
import Derived.Test.YtnjdkocpfcodfaaCuts
import Derived.Test.YtnjdkocpfcodfaaReftext
namespace Go.Proofs.Ytnjdkocpfcodfaa
open Go.ChangeShapes Go.WideShapes Go.ChangeAt Go.RowKit

theorem Rm.below {w w' : World} {r e : Nat} {L : ByteArray} (h : Rm w r L e) (hb : Below w.heap.size w w') : Rm w' r L e := (hb.block r h.lt).trans h
theorem Rm.new (w : World) (s : ByteArray) : Rm (w.alloc (.cells #[.string s, .int .i64 0] 32)) w.heap.size s 0 := heap_alloc_new w _
theorem Rm.other {w w' : World} {q r e : Nat} {L : ByteArray} (h : Rm w q L e) (hg : w.grownBy w' (some r)) (hne : q ≠ r) : Rm w' q L e :=
  (hg.block q h.lt (fun e => hne (Option.some.inj e))).trans h

def Two (W w : World) (r m : Nat) (L : ByteArray) (e : Nat) : Prop := Below W.heap.size W w ∧ Rd w r L e ∧ Rm w m L e ∧ r ≠ m ∧ W.heap.size ≤ r ∧ W.heap.size ≤ m ∧ L.size ≤ 65536
theorem Two.big {W w : World} {r m e : Nat} {L : ByteArray} (h : Two W w r m L e) : L.size ≤ 1000000 := Nat.le_trans h.2.2.2.2.2.2 (by decide)
theorem Two.rd {W w : World} {r m e : Nat} {L : ByteArray} (h : Two W w r m L e) : Rd w r L e := h.2.1
theorem Two.rm {W w : World} {r m e : Nat} {L : ByteArray} (h : Two W w r m L e) : Rm w m L e := h.2.2.1
theorem Two.drew {W w : World} {r m e : Nat} {L : ByteArray} (h : Two W w r m L e) : Two W w.drew r m L e := by
  obtain ⟨h1, h2, h3, h4, h5, h6, h7⟩ := h
  exact ⟨h1.drew, h2.drew, h3.below (Below.refl _ _).drew, h4, h5, h6, h7⟩
theorem Two.new {W w w1 : World} {r : Nat} {s : ByteArray} (h : Below W.heap.size W w1) (hw : W.heap.size ≤ w.heap.size) (hr : w.heap.size ≤ r) (hrd : Rd w1 r s 0) (hs : s.size ≤ 65536) : Two W (w1.alloc (.cells #[.string s, .int .i64 0] 32)) r w1.heap.size s 0 := by
  have := hrd.lt
  have := h.size
  exact ⟨h.alloc h.size _, hrd.alloc _, Rm.new _ _, by omega, by omega, by omega, hs⟩
/-- the one has gone on, the other not yet -/
def Half (W w : World) (r m : Nat) (L : ByteArray) (e : Nat) (L' : ByteArray) (e' : Nat) : Prop := Below W.heap.size W w ∧ Rd w r L' e' ∧ Rm w m L e ∧ r ≠ m ∧ W.heap.size ≤ r ∧ W.heap.size ≤ m ∧ L.size ≤ 65536
theorem Two.first {W w w' : World} {r m e : Nat} {L : ByteArray} (h : Two W w r m L e) {L' : ByteArray} {e' : Nat} (t : Told w w' r L' e') : Half W w' r m L e L' e' := by
  obtain ⟨h1, h2, h3, h4, h5, h6, h7⟩ := h
  exact ⟨below_told h1 h1.size t h5, t.2, h3.other t.1 h4.symm, h4, h5, h6, h7⟩
theorem Half.second {W w w' : World} {r m e : Nat} {L : ByteArray} {L' : ByteArray} {e' : Nat} (h : Half W w r m L e L' e') (t : ToldM w w' m L' e') (hs : L'.size ≤ L.size) : Two W w' r m L' e' := by
  obtain ⟨h1, h2, h3, h4, h5, h6, h7⟩ := h
  exact ⟨h1.grown t.1 h1.size (fun k hk => by injection hk with hk; omega), h2.other t.1 h4, t.2, h4, h5, h6, Nat.le_trans hs h7⟩

theorem size_back (L : ByteArray) (k : Nat) : (L.extract k L.size).size ≤ L.size := by rw [ByteArray.size_extract]; omega
theorem byteR_le (L : ByteArray) (e : Nat) : (byteR L e).2.1.size ≤ L.size := by
  unfold byteR
  split
  · exact Nat.le_refl _
  · split
    · exact Nat.le_refl _
    · exact size_back _ _
theorem fixedR_le (L : ByteArray) (e : Nat) : (fixedR L e).2.1.size ≤ L.size := by
  unfold fixedR
  split
  · exact Nat.le_refl _
  · split
    · exact Nat.le_refl _
    · exact size_back _ _
theorem shortR_le (L : ByteArray) (e : Nat) : (shortR L e).2.1.size ≤ L.size := by
  unfold shortR
  split
  · exact Nat.le_refl _
  · exact size_back _ _
theorem textR_le (L : ByteArray) (e : Nat) (most : Int) : (textR L e most).2.1.size ≤ L.size := by
  unfold textR
  split
  · exact Nat.le_refl _
  · exact size_back _ _
end Go.Proofs.Ytnjdkocpfcodfaa
