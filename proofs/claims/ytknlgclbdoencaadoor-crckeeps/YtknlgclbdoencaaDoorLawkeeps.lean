/- The walk of the law CrcKeeps. -/
import Derived.Test.YtknlgclbdoencaaDoorStore
import Derived.Deep.RegionWith
namespace Go.Proofs.YtknlgclbdoencaaDoor
open Go.ChangeShapes Go.WideShapes Go.ChangeAt Go.RowKit

set_option maxHeartbeats 400000 in
theorem keeps_long (a0 a1 : Option Addr) (n0 n1 c0 c1 : Nat) (w : World) (hT : Tab w) (h : 1024 < n0 ∨ 1024 < n1)
    (h0 : n0 ≤ 9223372036854775807) (h1 : n1 ≤ 9223372036854775807) :
    Calls Tryd.prog 7 #[.slice a0 n0 c0, .slice a1 n1 c1] w fun e w' => e = .returned (.bool true) ∧ Below w.heap.size w w' := by
  have HA := hide (awake_any w hT)
  clear hT
  by_cases k0 : 1024 < n0
  · clear h
    go_enter Tryd.func7, Tryd.ntmps7
    go_wp2_with (go_at_call 8; refine (unhide HA).mono ?_; rintro e w' ⟨rfl, rfl⟩)
    go_ret
    exact ⟨rfl, Below.refl _ _⟩
  · have k1 : 1024 < n1 := by omega
    clear h
    go_enter Tryd.func7, Tryd.ntmps7
    go_wp2_with (go_at_call 8; refine (unhide HA).mono ?_; rintro e w' ⟨rfl, rfl⟩)
    go_ret
    exact ⟨rfl, Below.refl _ _⟩

/-- the three bytes that are appended lie in a new block -/
theorem three_new {W w : World} {P : List (Value × List Nat)} (h : Inv W w P) :
    Inv W (w.alloc (.cells #[.int .u8 7, .int .u8 8, .int .u8 9] 5)) ((.slice (some ⟨w.heap.size, 0, none⟩) 3 3, [7, 8, 9]) :: P) := by
  refine (h.alloc _).cons ⟨.inr ⟨w.heap.size, 0, 3, rfl, fun i hi => ?_⟩, (by decide : ∀ b ∈ [7, 8, 9], b < 256), by simp⟩
  match i, hi with
  | 0, _ => simp
  | 1, _ => simp
  | 2, _ => simp
theorem head_part {w : World} {g cap : Nat} {l r : List Nat} (hc : ∀ i, i < (l ++ r).length → w.cell? ⟨g, i, none⟩ = some (.int .u8 ((l ++ r).getD i 0 : Nat))) (hl : ∀ b ∈ l, b < 256) (hlen : l.length ≤ 8192) :
    Part w (.slice (some ⟨g, 0, none⟩) l.length cap, l) := by
  refine part_of (.inr ⟨g, 0, cap, rfl, fun i hi => ?_⟩) hl hlen
  rw [Nat.zero_add, hc i (by simp; omega)]
  simp [List.getElem?_append_left hi]
/-- what stands behind the bytes -/
theorem tail_cells {W w : World} {P : List (Value × List Nat)} {g cap : Nat} {l : List Nat} (hI : Inv W w P) (hm : (.slice (some ⟨g, 0, none⟩) (l.length + 3) cap, l ++ [7, 8, 9]) ∈ P) :
    w.cell? ⟨g, l.length, none⟩ = some (.int .u8 7) ∧ w.cell? ⟨g, l.length + 1, none⟩ = some (.int .u8 8) ∧ w.cell? ⟨g, l.length + 2, none⟩ = some (.int .u8 9) := by
  rcases (hI.2.2 _ hm).1 with ⟨h0, _⟩ | ⟨g', o, cap', e, hc⟩
  · simp at h0
  · injection e with e1 e2 e3
    injection e1 with e1
    injection e1 with e4 e5 e6
    subst e4 e5
    have c0 := hc l.length (by simp)
    have c1 := hc (l.length + 1) (by simp)
    have c2 := hc (l.length + 2) (by simp)
    rw [Nat.zero_add] at c0 c1 c2
    refine ⟨?_, ?_, ?_⟩
    · rw [c0]; simp
    · rw [c1]; simp
    · rw [c2]; simp

theorem app3_law {ops : Array Oper} {rest : List Oper} {o : Oper} {a : Act} {Q : Exit → Act → World → Prop} {W w : World} {P : List (Value × List Nat)} {v : Value} {l : List Nat}
    (hwant : Region.wanted o (yielded ops a.tmps) = true) (s x : Operand) (ho : o.op = .call { callee := .builtin .append, args := #[s, x], argTypes := #[23, 23] })
    (hs : a.eval s = v) (hx : a.eval x = .slice (some ⟨w.heap.size, 0, none⟩) 3 3) (hI : Inv W w P) (hown : Own W.heap.size w v l) (hl : ∀ b ∈ l, b < 256) (hlen : l.length ≤ 1024)
    (h : ∀ g cap w', l.length + 3 ≤ cap → Inv W w' [(.slice (some ⟨g, 0, none⟩) l.length cap, l), (.slice (some ⟨g, 0, none⟩) (l.length + 3) cap, l ++ [7, 8, 9])] →
      wpList Tryd.prog ops Q rest (a.put o.dst (.slice (some ⟨g, 0, none⟩) (l.length + 3) cap)) w') :
    wpList Tryd.prog ops Q (o :: rest) a (w.alloc (.cells #[.int .u8 7, .int .u8 8, .int .u8 9] 5)) := by
  have e3 : (l ++ [7, 8, 9]).length = l.length + 3 := by simp
  refine app_law (src := .slice (some ⟨w.heap.size, 0, none⟩) 3 3) (l := l) (r := [7, 8, 9]) hwant s x ho hs hx (three_new hI) (hown.below ((Below.refl _ _).alloc (Nat.le_refl _) _)) hl List.mem_cons_self (by simp; omega) ?_
  intro x9 y9 w9 hI9 hown9
  obtain ⟨g, rfl, _, hcap, hcs⟩ := hown9.some (by simp)
  rw [e3] at hcap hI9 ⊢
  exact h g y9 w9 hcap (hI9.cons (head_part hcs hl (by omega)))

set_option maxHeartbeats 1000000 in
theorem keeps_short (a0 a1 : Option Addr) (c0 c1 : Nat) (l m : List Nat) (W : World) (hT : Tab W) (h0 : l.length ≤ 1024) (h1 : m.length ≤ 1024)
    (b0 : ∀ b ∈ l, b < 256) (b1 : ∀ b ∈ m, b < 256)
    (p0 : Byt W (.slice a0 l.length c0) l) (p1 : Byt W (.slice a1 m.length c1) m) :
    Calls Tryd.prog 7 #[.slice a0 l.length c0, .slice a1 m.length c1] W fun e w' => e = .returned (.bool true) ∧ Below W.heap.size W w' := by
  have P0 : Part W (.slice a0 l.length c0, l) := part_of p0 b0 (by omega)
  have P1 : Part W (.slice a1 m.length c1, m) := part_of p1 b1 (by omega)
  have hI : Inv W W [(.slice a0 l.length c0, l), (.slice a1 m.length c1, m)] := Inv.start hT (by
    intro p hp
    simp at hp
    rcases hp with rfl | rfl
    · exact P0
    · exact P1)
  have HA := hide (awake_any W hT)
  have HI := hide hI
  have HP0 := hide P0
  have HP1 := hide P1
  have HB0 := hide b0
  have hs0 := Crc.sum_lt l b0
  clear hT p0 p1 b0 b1 hI P0 P1
  go_enter Tryd.func7, Tryd.ntmps7
  go_wp2_with (first
    | (go_at_call 8; refine (unhide HA).mono ?_; rintro e w' ⟨rfl, hw⟩; have hw := hw.symm; subst hw)
    | (go_at_call_of 11 a0; refine (own_inv (l := l) (unhide HI) (by simp) (by omega)).mono ?_; rintro e w' ⟨x0, y0, rfl, hI, hown⟩)
    | (at_builtin; refine app3_law (l := l) rfl _ _ rfl rfl rfl hI hown (unhide HB0) h0 ?_; intro g y9 w9 hcap hI9; have hI := (hI9.cons ((unhide HP0).below hI9.1)).cons ((unhide HP1).below hI9.1))
    | (go_at_call_of 10 (1 : Nat); refine (sum_inv1 (l1 := l) (by assumption) (by simp)).mono ?_; rintro e w' ⟨rfl, hI⟩; obtain ⟨t7, t8, t9⟩ := tail_cells (g := g) (cap := y9) (l := l) hI (by simp); have k0 := conv_inv hI (v := .slice a0 l.length c0) (l := l) (by simp); have k1 := conv_inv hI (v := .slice (some ⟨g, 0, none⟩) l.length y9) (l := l) (by simp))
    | (go_at_call_of 11 a1; refine (own_inv (l := m) (by assumption) (by simp) (by omega)).mono ?_; rintro e w' ⟨x1, y1, rfl, hI, hown⟩)
    | (go_at_call_of 10 (2 : Nat); refine (sum_inv2 (l1 := m) (l2 := l) (by assumption) (by simp) (by simp)).mono ?_; rintro e w' ⟨rfl, hI⟩)
    | (go_at_call 13; refine (more_inv (l := m) (by assumption) (by simp) (by omega)).mono ?_; rintro e w' ⟨rfl, hI⟩))
  go_ret
  exact ⟨rfl, hI.1⟩
end Go.Proofs.YtknlgclbdoencaaDoor
