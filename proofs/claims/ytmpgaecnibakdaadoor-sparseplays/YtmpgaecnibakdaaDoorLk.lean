/- What the laws' walks share. -/
import Derived.Test.YtmpgaecnibakdaaDoorAw
import Derived.BigQuiet
namespace Go.Proofs.YtmpgaecnibakdaaDoor
open Go.ChangeShapes Go.WideShapes Go.ChangeAt Go.RowKit
attribute [local go_sem] Oper.semAt_some

theorem OwnP.cap {B : Nat} {w : World} {a : Option Addr} {n cap : Nat} {l : List Pc} (h : OwnP B w (.slice a n cap) l) : l.length ≤ cap := by
  rcases h.2 with ⟨hv, h0⟩ | ⟨g, c, cur, hv, _, _, hn, _⟩
  · rw [h0]; exact Nat.zero_le _
  · injection hv with h1 h2 h3
    omega
theorem great_no {l : List Pc} (h : ¬ greatB l = true) : l.length ≤ 200 ∧ ∀ p ∈ l, p.2.length ≤ 1000 := by
  unfold greatB at h
  rw [Bool.or_eq_true, not_or] at h
  refine ⟨by have := h.1; simpa using this, fun p hp => ?_⟩
  have h2 := h.2
  rw [List.any_eq_true] at h2
  have : ¬ (1000 < p.2.length) := fun hh => h2 ⟨p, hp, decide_eq_true hh⟩
  omega
def Rs (w : World) (a : Option Addr) (l : List Rg) : Prop := Tw frV toV w a l
theorem Rs.below {w w' : World} {a : Option Addr} {l : List Rg} (h : Rs w a l) (hb : Below w.heap.size w w') : Rs w' a l := Tw.below h hb
theorem OwnR.rs {B : Nat} {w : World} {a : Option Addr} {n cap : Nat} {l : List Rg} (h : OwnR B w (.slice a n cap) l) : Rs w a l := Tw.own h
theorem Rs.get {w : World} {a : Option Addr} {l : List Rg} (h : Rs w a l) {i : Nat} {x y : Int} (hx : l[i]? = some (x, y)) : ∃ b off, a = some ⟨b, off, none⟩ ∧ w.cell? ⟨b, off + i * 2, none⟩ = some (.int .i64 x) ∧ w.cell? ⟨b, off + (i * 2 + 1), none⟩ = some (.int .i64 y) ∧ w.cell? ⟨b, off + i * 2 + 1, none⟩ = some (.int .i64 y) := by
  obtain ⟨b, off, e, hh⟩ := Tw.at h (List.getElem?_eq_some_iff.1 hx).1
  have := (hh _ _ hx).2
  exact ⟨b, off, e, (hh _ _ hx).1, this, by rw [Nat.add_assoc]; exact this⟩
def I64 (n : Int) : Prop := -9223372036854775808 ≤ n ∧ n ≤ 9223372036854775807
end Go.Proofs.YtmpgaecnibakdaaDoor
