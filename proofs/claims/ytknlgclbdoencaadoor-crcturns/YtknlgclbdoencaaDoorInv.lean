/- What a law knows of the world between its calls: nothing old has turned, the table is there, and these slices hold these bytes. -/
import Derived.Test.YtknlgclbdoencaaDoorParts
import Derived.BigFrame
namespace Go.Proofs.YtknlgclbdoencaaDoor
open Go.ChangeShapes Go.WideShapes Go.ChangeAt Go.RowKit

def Inv (W w : World) (P : List (Value × List Nat)) : Prop := Below W.heap.size W w ∧ Tab W ∧ ∀ p ∈ P, Part w p

theorem Part.below {w w' : World} {p : Value × List Nat} (h : Part w p) (hb : Below w.heap.size w w') : Part w' p := ⟨h.1.below hb, h.2⟩
theorem below_then {W w1 w2 : World} (h : Below W.heap.size W w1) (k : Below w1.heap.size w1 w2) : Below W.heap.size W w2 := h.trans (k.mono h.size)
theorem Inv.tab {W w : World} {P : List (Value × List Nat)} (h : Inv W w P) : Tab w := h.2.1.below h.1
theorem Inv.then {W w w' : World} {P : List (Value × List Nat)} (h : Inv W w P) (hb : Below w.heap.size w w') : Inv W w' P :=
  ⟨below_then h.1 hb, h.2.1, fun p hp => (h.2.2 p hp).below hb⟩
theorem Inv.alloc {W w : World} {P : List (Value × List Nat)} (h : Inv W w P) (o : Obj) : Inv W (w.alloc o) P := h.then ((Below.refl _ _).alloc (Nat.le_refl _) o)
theorem Inv.drew {W w : World} {P : List (Value × List Nat)} (h : Inv W w P) : Inv W w.drew P := h.then (Below.refl _ _).drew
theorem Inv.cons {W w : World} {P : List (Value × List Nat)} (h : Inv W w P) {p : Value × List Nat} (hp : Part w p) : Inv W w (p :: P) :=
  ⟨h.1, h.2.1, fun q hq => by rcases List.mem_cons.1 hq with rfl | hq; exact hp; exact h.2.2 q hq⟩
theorem Inv.start {W : World} {P : List (Value × List Nat)} (hT : Tab W) (h : ∀ p ∈ P, Part W p) : Inv W W P := ⟨Below.refl _ _, hT, h⟩
theorem part_of {w : World} {v : Value} {l : List Nat} (hb : Byt w v l) (hl : ∀ b ∈ l, b < 256) (hlen : l.length ≤ 8192) : Part w (v, l) := ⟨hb, hl, by show l.length ≤ _; omega⟩

theorem Own.mono {B B' : Nat} {w : World} {v : Value} {l : List Nat} (h : Own B w v l) (hB : B' ≤ B) : Own B' w v l := by
  obtain ⟨h1, h2 | ⟨g, cap, cur, e, hb, h3⟩⟩ := h
  · exact ⟨h1, .inl h2⟩
  · exact ⟨h1, .inr ⟨g, cap, cur, e, Nat.le_trans hB hb, h3⟩⟩

theorem own_inv {W w : World} {P : List (Value × List Nat)} {v : Value} {l : List Nat} (hI : Inv W w P) (hm : (v, l) ∈ P) (hlen : l.length ≤ 8192) :
    Calls Tryd.prog 11 #[v] w fun e w' => ∃ a cap, e = .returned (.slice a l.length cap) ∧ Inv W w' ((.slice a l.length cap, l) :: P) ∧ Own W.heap.size w' (.slice a l.length cap) l := by
  have hp := hI.2.2 _ hm
  refine (own_any v l w hlen hp.1).mono ?_
  rintro e w' ⟨v', rfl, hown, hbel⟩
  obtain ⟨a, cap, rfl⟩ := hown.byt.form
  exact ⟨a, cap, rfl, (hI.then hbel).cons ⟨hown.byt, hp.2⟩, hown.mono hI.1.size⟩

theorem more_inv {W w : World} {P : List (Value × List Nat)} {v : Value} {l : List Nat} {c : Int} (hI : Inv W w P) (hm : (v, l) ∈ P) (hc : 0 ≤ c ∧ c < 4294967296) :
    Calls Tryd.prog 13 #[.int .u32 c, v] w fun e w' => e = .returned (.int .u32 (Crc.more c.toNat l : Nat)) ∧ Inv W w' P := by
  have hp := hI.2.2 _ hm
  refine (more_any c v l w hI.tab hc hp.2.1 hp.2.2 hp.1).mono ?_
  rintro e w' ⟨rfl, rfl⟩
  exact ⟨rfl, hI⟩

theorem sum_inv {W w : World} {P Q : List (Value × List Nat)} {g cap : Nat} (hI : Inv W w P) (hQ : ∀ p ∈ Q, p ∈ P) (hn : Q.length ≤ 8192) (hc : ∀ i (h : i < Q.length), w.cell? ⟨g, i, none⟩ = some (Q[i]).1) :
    Calls Tryd.prog 10 #[.slice (some ⟨g, 0, none⟩) Q.length cap] w fun e w' => e = .returned (.int .u32 (Crc.sum (bytesOf Q) : Nat)) ∧ Inv W w' P := by
  refine (sum_any g 0 cap Q w hI.tab (by omega) (fun p hp => hI.2.2 p (hQ p hp)) (fun i h => by rw [Nat.zero_add]; exact hc i h)).mono ?_
  rintro e w' ⟨rfl, rfl⟩
  exact ⟨rfl, hI⟩

theorem sum_inv1 {W w : World} {P : List (Value × List Nat)} {v1 : Value} {l1 : List Nat} (hI : Inv W w P) (h1 : (v1, l1) ∈ P) :
    Calls Tryd.prog 10 #[.slice (some ⟨w.heap.size, 0, none⟩) 1 1] (w.alloc (.cells #[v1] 23)) fun e w' => e = .returned (.int .u32 (Crc.sum l1 : Nat)) ∧ Inv W w' P := by
  have h := sum_inv (g := w.heap.size) (cap := 1) (Q := [(v1, l1)]) (hI.alloc (.cells #[v1] 23)) (fun p hp => by simp at hp; subst hp; exact h1) (by simp)
    (fun i hi => by
      match i, hi with
      | 0, _ => simp)
  have e : bytesOf [(v1, l1)] = l1 := by simp [bytesOf]
  rw [e] at h
  exact h
theorem sum_inv2 {W w : World} {P : List (Value × List Nat)} {v1 v2 : Value} {l1 l2 : List Nat} (hI : Inv W w P) (h1 : (v1, l1) ∈ P) (h2 : (v2, l2) ∈ P) :
    Calls Tryd.prog 10 #[.slice (some ⟨w.heap.size, 0, none⟩) 2 2] (w.alloc (.cells #[v1, v2] 23)) fun e w' => e = .returned (.int .u32 (Crc.sum (l1 ++ l2) : Nat)) ∧ Inv W w' P := by
  have h := sum_inv (g := w.heap.size) (cap := 2) (Q := [(v1, l1), (v2, l2)]) (hI.alloc (.cells #[v1, v2] 23)) (fun p hp => by simp at hp; rcases hp with rfl | rfl; exact h1; exact h2) (by simp)
    (fun i hi => by
      match i, hi with
      | 0, _ => simp
      | 1, _ => simp)
  have e : bytesOf [(v1, l1), (v2, l2)] = l1 ++ l2 := by simp [bytesOf]
  rw [e] at h
  exact h
theorem sum_inv3 {W w : World} {P : List (Value × List Nat)} {v1 v2 v3 : Value} {l1 l2 l3 : List Nat} (hI : Inv W w P) (h1 : (v1, l1) ∈ P) (h2 : (v2, l2) ∈ P) (h3 : (v3, l3) ∈ P) :
    Calls Tryd.prog 10 #[.slice (some ⟨w.heap.size, 0, none⟩) 3 3] (w.alloc (.cells #[v1, v2, v3] 23)) fun e w' => e = .returned (.int .u32 (Crc.sum (l1 ++ l2 ++ l3) : Nat)) ∧ Inv W w' P := by
  have h := sum_inv (g := w.heap.size) (cap := 3) (Q := [(v1, l1), (v2, l2), (v3, l3)]) (hI.alloc (.cells #[v1, v2, v3] 23)) (fun p hp => by simp at hp; rcases hp with rfl | rfl | rfl; exact h1; exact h2; exact h3) (by simp)
    (fun i hi => by
      match i, hi with
      | 0, _ => simp
      | 1, _ => simp
      | 2, _ => simp)
  have e : bytesOf [(v1, l1), (v2, l2), (v3, l3)] = l1 ++ l2 ++ l3 := by simp [bytesOf]
  rw [e] at h
  exact h

theorem text_inv {W w : World} {P : List (Value × List Nat)} {s : ByteArray} (hI : Inv W w P) (hs : s.size ≤ maxLen) :
    Calls Tryd.prog 12 #[.string s] w fun e w' => e = .returned (.int .u32 (Crc.sum (bn s) : Nat)) ∧ Inv W w' P := by
  refine (text_any s w hI.tab hs).mono ?_
  rintro e w' ⟨rfl, rfl⟩
  exact ⟨rfl, hI⟩
theorem awake_inv {W w : World} {P : List (Value × List Nat)} (hI : Inv W w P) :
    Calls Tryd.prog 8 #[] w fun e w' => e = .returned (.bool true) ∧ Inv W w' P := by
  refine (awake_any w hI.tab).mono ?_
  rintro e w' ⟨rfl, rfl⟩
  exact ⟨rfl, hI⟩
theorem refSum_inv {W w : World} {P : List (Value × List Nat)} {s : ByteArray} (hI : Inv W w P) (hs : s.size ≤ maxLen) :
    Calls Tryd.prog 9 #[.string s] w fun e w' => e = .returned (.int .u32 (Crc.sum (bn s) : Nat)) ∧ Inv W w' P := by
  refine (refSum_any s w hs).mono ?_
  rintro e w' ⟨rfl, rfl⟩
  exact ⟨rfl, hI⟩
theorem conv_inv {W w : World} {P : List (Value × List Nat)} {v : Value} {l : List Nat} (hI : Inv W w P) (hm : (v, l) ∈ P) : (convert 23 9 v).run Tryd.prog w = .ok (.string (strOf l)) w :=
  conv_any v l w (hI.2.2 _ hm).1

theorem cells_append (l r : List Nat) : cells (l ++ r) = cells l ++ cells r := by simp [cells]
theorem cells_one (l : List Nat) : ∀ u ∈ cells l, u.oneCell' = true := by
  intro u hu
  obtain ⟨n, _, rfl⟩ := List.mem_map.1 hu
  rfl

/-- append to what is one's own, of whatever slice of bytes -/
theorem run_app (B : Nat) (ty : TypeId) (w : World) (v src : Value) (l r : List Nat) (hown : Own B w v l) (hsrc : Byt w src r) (hlen : l.length + r.length ≤ 16384) (hB : B ≤ w.heap.size) :
    ∃ v' w', (Builtin.append_ #[23, 23] ty #[v, src]).run Tryd.prog w = .ok v' w' ∧ Own B w' v' (l ++ r) ∧ w.grownBy w' v.ownBlock := by
  obtain ⟨i0, hi, hz0, hz1, hz2⟩ := info_parts Tryd.info5
  have any : ∀ (ad : Addr) (c : Nat), (∀ j u, (cells r)[j]? = some u → w.cell? (ad.add j) = some u) → ∃ v' w', (Builtin.append_ #[23, 23] ty #[v, .slice (some ad) r.length c]).run Tryd.prog w = .ok v' w' ∧ Own B w' v' (l ++ r) ∧ w.grownBy w' v.ownBlock := by
    intro ad c hn
    obtain ⟨v', w', hr, ho, hg, _⟩ := run_append_own (P := Tryd.prog) w B 23 ty 5 i0 (.int .u8 0) 1 1 Tryd.underlying23 hi hz0 hz1 hz2 rfl (by decide) v l.length (cells l) hown ad r.length c (cells r) (by rw [cells_length, Nat.mul_one]) hn (cells_one r) (by unfold maxLen; omega) (by omega) hB
    refine ⟨v', w', hr, ?_, hg⟩
    unfold Own
    rw [List.length_append, cells_append]
    exact ho
  rcases hsrc with ⟨rfl, a, cap, rfl⟩ | ⟨g, o, cap, rfl, hc⟩
  · cases a with
    | none =>
      refine ⟨v, w, ?_, by rw [List.append_nil]; exact hown, World.grownBy.refl _ _⟩
      rcases hown.2 with ⟨rfl, hn⟩ | ⟨g, cp, cur, rfl, _, _, hnc, _⟩
      · simp [Builtin.append_, run_underlying Tryd.underlying23, sizeOf, typeInfo, hi, Builtin.lenOf, Builtin.firstCells]
      · simp [Builtin.append_, run_underlying Tryd.underlying23, sizeOf, typeInfo, hi, Builtin.lenOf, Builtin.firstCells, hnc, storeCells]
    | some ad => exact any ad cap (fun j u hj => by simp [cells] at hj)
  · refine any ⟨g, o, none⟩ cap (fun j u hj => ?_)
    have hjl : j < r.length := by
      rcases Nat.lt_or_ge j r.length with h | h
      · exact h
      · rw [List.getElem?_eq_none (by rw [cells_length]; exact h)] at hj
        cases hj
    rw [Go.WideShapes.add_plain, hc j hjl]
    simp [cells, List.getElem?_eq_getElem hjl] at hj
    subst hj
    simp [List.getElem?_eq_getElem hjl]

theorem app_law {ops : Array Oper} {rest : List Oper} {o : Oper} {a : Act} {Q : Exit → Act → World → Prop} {W w : World} {P : List (Value × List Nat)} {v src : Value} {l r : List Nat}
    (hwant : Region.wanted o (yielded ops a.tmps) = true) (s x : Operand) (ho : o.op = .call { callee := .builtin .append, args := #[s, x], argTypes := #[23, 23] })
    (hs : a.eval s = v) (hx : a.eval x = src) (hI : Inv W w P) (hown : Own W.heap.size w v l) (hl : ∀ b ∈ l, b < 256) (hm : (src, r) ∈ P) (hlen : l.length + r.length ≤ 16384)
    (h : ∀ a' cap' w', Inv W w' [(.slice a' (l ++ r).length cap', l ++ r)] → Own W.heap.size w' (.slice a' (l ++ r).length cap') (l ++ r) → wpList Tryd.prog ops Q rest (a.put o.dst (.slice a' (l ++ r).length cap')) w') : wpList Tryd.prog ops Q (o :: rest) a w := by
  have hp := hI.2.2 _ hm
  obtain ⟨v', w', hr, ho', hg⟩ := run_app W.heap.size o.type w v src l r hown hp.1 hlen hI.1.size
  obtain ⟨a', cap', rfl⟩ := ho'.byt.form
  have hb : Below W.heap.size W w' := hI.1.grown hg hI.1.size (fun k hk => (World.ownsRow.lt hown k hk).1)
  have hI' : Inv W w' [(.slice a' (l ++ r).length cap', l ++ r)] := ⟨hb, hI.2.1, fun p hp' => by
    obtain rfl := List.mem_singleton.1 hp'
    refine ⟨ho'.byt, fun b hb => ?_, ?_⟩
    · rcases List.mem_append.1 hb with h | h
      · exact hl b h
      · exact hp.2.1 b h
    · show (l ++ r).length ≤ _
      rw [List.length_append]
      omega⟩
  refine BigFrame.wpList_want hwant fun K hK => ?_
  unfold Oper.wp execOp
  simp only [ho, resolve, invoke, builtin, Sem.run_bind, Sem.run_pure, Result.andThen_ok, List.map_toArray, List.map_cons, List.map_nil, hs, hx, hr]
  exact hK _ _ (h a' cap' w' hI' ho')
end Go.Proofs.YtknlgclbdoencaaDoor
