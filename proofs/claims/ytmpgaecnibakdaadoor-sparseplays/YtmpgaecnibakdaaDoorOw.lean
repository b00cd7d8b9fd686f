/- A copy of a row that came in; whether it is great; a byte; two rows held against each other. -/
import Derived.Test.YtmpgaecnibakdaaDoorAl
namespace Go.Proofs.YtmpgaecnibakdaaDoor
open Go.ChangeShapes Go.WideShapes Go.ChangeAt Go.RowKit
attribute [local go_sem] Oper.semAt_some

theorem pcs_one (l : List Pc) : ∀ u ∈ pcs l, u.oneCell' = true := by
  intro u hu
  unfold pcs two at hu
  obtain ⟨x, _, hx⟩ := List.mem_flatMap.1 hu
  simp at hx
  rcases hx with rfl | rfl <;> rfl
theorem Ps.src {w : World} {b off : Nat} {l : List Pc} (hc : ∀ i x, l[i]? = some x → w.cell? ⟨b, off + i * 2, none⟩ = some (ixV x) ∧ w.cell? ⟨b, off + (i * 2 + 1), none⟩ = some (daV x)) :
    ∀ j u, (pcs l)[j]? = some u → w.cell? ((⟨b, off, none⟩ : Addr).add j) = some u := by
  intro j u hj
  rw [Go.WideShapes.add_plain]
  have hjl : j < l.length * 2 := by
    have := (List.getElem?_eq_some_iff.1 hj).1
    unfold pcs at this
    rw [two_length] at this
    exact this
  obtain ⟨x, hx⟩ := get_some (l := l) (i := j / 2) (by omega)
  obtain ⟨p0, p1⟩ := two_get ixV daV l (j / 2) x hx
  have c := hc _ _ hx
  unfold pcs at hj
  rcases Nat.mod_two_eq_zero_or_one j with hm | hm
  · rw [show j / 2 * 2 = j by omega] at p0 c
    rw [p0] at hj
    rw [c.1]
    exact hj
  · rw [show j / 2 * 2 + 1 = j by omega] at p1 c
    rw [p1] at hj
    rw [c.2]
    exact hj
theorem run_app_ps (w : World) (B : Nat) (ty : TypeId) (v : Value) (l0 : List Pc) (hown : OwnP B w v l0) (a : Option Addr) (cap : Nat) (l : List Pc) (hl : Ps w a l) (hlen : l0.length + l.length ≤ 100000) (hB : B ≤ w.heap.size) :
    ∃ a2 cap2 w', (Builtin.append_ #[22, 22] ty #[v, .slice a l.length cap]).run Tryd.prog w = .ok (.slice a2 (l0.length + l.length) cap2) w' ∧ OwnP B w' (.slice a2 (l0.length + l.length) cap2) (l0 ++ l) ∧ w.grownBy w' v.ownBlock := by
  obtain ⟨i0, hi, hz0, hz1, hz2⟩ := info_parts info58
  rcases hl with h0 | ⟨b, off, rfl, _, hc⟩
  · obtain rfl := List.length_eq_zero_iff.1 h0
    obtain ⟨a2, cap2, rfl⟩ := hown.form
    rw [List.append_nil]
    refine ⟨a2, cap2, w, ?_, hown, ⟨rfl, rfl, rfl, Nat.le_refl _, fun _ _ _ => rfl⟩⟩
    rcases hown.2 with ⟨hv, hn⟩ | ⟨g, cp, cur, hv, _, _, hnc, _⟩
    · injection hv with h1 h2 h3
      subst h1 h3
      cases a <;> simp [Builtin.append_, run_underlying Tryd.underlying22, sizeOf, typeInfo, hi, Builtin.lenOf, Builtin.firstCells, loadCells, loadCellsFrom, hn]
    · injection hv with h1 h2 h3
      subst h1 h3
      cases a <;> simp [Builtin.append_, run_underlying Tryd.underlying22, sizeOf, typeInfo, hi, Builtin.lenOf, Builtin.firstCells, storeCells, loadCells, loadCellsFrom, hnc]
  · obtain ⟨v', w', hr, ho', hg, _⟩ := run_append_own (P := Tryd.prog) w B 22 ty 58 i0 _ 2 24 Tryd.underlying22 hi hz0 hz1 hz2 rfl (by decide) v l0.length (pcs l0) hown ⟨b, off, none⟩ l.length cap (pcs l) (by unfold pcs; rw [two_length])
      (Ps.src hc) (pcs_one l) (by unfold maxLen; omega) (by omega) hB
    obtain ⟨a2, cap2, rfl⟩ := ownsRow_form ho'
    refine ⟨a2, cap2, w', hr, ?_, hg⟩
    unfold OwnP pcs
    rw [List.length_append, two_append]
    exact ho'
theorem app_ps {ops : Array Oper} {rest : List Oper} {o : Oper} {a : Act} {Q : Exit → Act → World → Prop} {B : Nat} {w : World} {v : Value} {src : Option Addr} {cap : Nat} {l0 l : List Pc}
    (hwant : Region.wanted o (yielded ops a.tmps) = true) (s y : Operand) (ho : o.op = .call { callee := .builtin .append, args := #[s, y], argTypes := #[22, 22] })
    (hs : a.eval s = v) (hx : a.eval y = .slice src l.length cap) (hown : OwnP B w v l0) (hl : Ps w src l) (hlen : l0.length + l.length ≤ 100000) (hB : B ≤ w.heap.size)
    (h : ∀ a2 cap2 w', OwnP B w' (.slice a2 (l0.length + l.length) cap2) (l0 ++ l) → w.grownBy w' v.ownBlock → wpList Tryd.prog ops Q rest (a.put o.dst (.slice a2 (l0.length + l.length) cap2)) w') :
    wpList Tryd.prog ops Q (o :: rest) a w := by
  obtain ⟨a2, cap2, w', hr, ho', hg⟩ := run_app_ps w B o.type v l0 hown src cap l hl hlen hB
  refine BigFrame.wpList_want hwant fun K hK => ?_
  unfold Oper.wp execOp
  simp only [ho, resolve, invoke, builtin, Sem.run_bind, Sem.run_pure, Result.andThen_ok, List.map_toArray, List.map_cons, List.map_nil, hs, hx, hr]
  exact hK _ _ (h a2 cap2 w' ho' hg)
theorem own_grown {B : Nat} {W w w' : World} {v : Value} {T : TypeId} {n sz : Nat} {xs : List Value} (hb : Below B W w) (hown : w.ownsRow B T sz v n xs) (hg : w.grownBy w' v.ownBlock) (hB : B ≤ w.heap.size) : Below B W w' :=
  hb.grown hg hB (fun k hk => (World.ownsRow.lt hown k hk).1)
theorem OwnP.empty (w : World) : OwnP w.heap.size (w.alloc (.cells #[] 58)) (.slice (some ⟨w.heap.size, 0, none⟩) 0 0) [] :=
  World.ownsRow_made w #[] 0 (Nat.le_refl _) (Nat.zero_le _) (by simp)

set_option maxHeartbeats 1000000 in
theorem own_any (a : Option Addr) (cap : Nat) (l : List Pc) (w : World) (hr : Ps w a l) (hl : l.length ≤ 10000) :
    Calls Tryd.prog 12 #[.slice a l.length cap] w fun e w' => ∃ a' cap', e = .returned (.slice a' l.length cap') ∧ OwnP w.heap.size w' (.slice a' l.length cap') l ∧ Below w.heap.size w w' := by
  have HE := hide (OwnP.empty w)
  have b1 := b_alloc w (.cells #[] 58)
  have HR := hide (hr.below b1)
  have HB := hide b1
  have hs : w.heap.size ≤ (w.alloc (.cells #[] 58)).heap.size := b1.size
  have z : (0 : Nat) + l.length = l.length := Nat.zero_add _
  clear hr b1
  go_enter Tryd.func12, Tryd.ntmps12
  go_wp2_with (at_builtin; refine app_ps rfl _ _ rfl rfl rfl (unhide HE) (unhide HR) (by rw [List.length_nil]; omega) hs ?_; intro a2 cap2 w2 ho hg; rw [List.length_nil, Nat.zero_add] at ho ⊢; have HO := hide ho; have HG := hide (own_grown (unhide HB) (unhide HE) hg hs); clear ho hg)
  go_ret
  exact ⟨_, _, rfl, unhide HO, unhide HG⟩

/-- more than is asked -/
def greatB (l : List Pc) : Bool := decide (200 < l.length) || l.any fun p => decide (1000 < p.2.length)
set_option maxHeartbeats 1000000 in
theorem great_any (a : Option Addr) (cap : Nat) (l : List Pc) (w : World) (hr : Ps w a l) (hl : l.length ≤ 9223372036854775807) :
    Calls Tryd.prog 10 #[.slice a l.length cap] w fun e w' => e = .returned (.bool (greatB l)) ∧ w' = w := by
  have HR := hide hr
  clear hr
  by_cases h0 : 200 < l.length
  · have hg : greatB l = true := by unfold greatB; rw [decide_eq_true h0]; rfl
    have h0' : (200 : Int) < (l.length : Int) := by omega
    rw [hg]
    clear hg
    go_enter Tryd.func10, Tryd.ntmps10
    go_wp2
    go_ret
    exact ⟨rfl, rfl⟩
  · have h0' : ¬ (200 : Int) < (l.length : Int) := by omega
    have HG : Hid (greatB l = l.any fun p => decide (1000 < p.2.length)) := by
      show _ = _
      unfold greatB
      rw [decide_eq_false h0]
      rfl
    rw [unhide HG]
    clear HG
    go_enter Tryd.func10, Tryd.ntmps10
    go_wp2
    go_loop [3] (fun j => ∃ i : Nat, i ≤ l.length ∧ j = .int .i64 i ∧ ∀ k x, k < i → l[k]? = some x → x.2.length ≤ 1000) (fun j => l.length - (intOf j).toNat)
    case atStart => exact ⟨0, Nat.zero_le _, rfl, fun k x hk => by omega⟩
    case round =>
      obtain ⟨i, hi, rfl, hall⟩ := hrel
      by_cases hlt : i < l.length
      · obtain ⟨⟨ix, da⟩, hx⟩ := get_some hlt
        obtain ⟨b, off, rfl, hcell⟩ := (unhide HR).at hlt
        have c1 := (hcell _ _ hx).2
        unfold daV at c1
        simp only at c1
        have c2 := c1
        rw [← Nat.add_assoc] at c2
        have hlt' : (i : Int) < (l.length : Int) := by omega
        by_cases hb : 1000 < da.length
        · have hb' : (1000 : Int) < ((tx da).size : Int) := by rw [tx_size]; omega
          have HW : Hid ((l.any fun p => decide (1000 < p.2.length)) = true) := List.any_eq_true.2 ⟨_, List.mem_of_getElem? hx, decide_eq_true hb⟩
          clear hx hcell hall
          go_wp2
          go_ret
          exact ⟨by rw [unhide HW]; rfl, rfl⟩
        · have hb' : ¬ (1000 : Int) < ((tx da).size : Int) := by rw [tx_size]; omega
          have HW : Hid (∀ k x, k < i + 1 → l[k]? = some x → x.2.length ≤ 1000) := by
            intro k x hk hkx
            by_cases hki : k < i
            · exact hall k x hki hkx
            · obtain rfl : k = i := by omega
              rw [hx] at hkx
              cases hkx
              simp only
              omega
          clear hx hcell hall
          go_wp2
          go_round
          case rel => exact ⟨i + 1, by omega, by go_num, unhide HW⟩
          case measure => simp [intOf]; omega
      · have hlt' : ¬ (i : Int) < (l.length : Int) := by omega
        have HW : Hid ((l.any fun p => decide (1000 < p.2.length)) = false) := by
          show _ = _
          rw [List.any_eq_false]
          intro x hx
          obtain ⟨k, hk, e⟩ := List.mem_iff_getElem.1 hx
          have := hall k x (by omega) (by rw [List.getElem?_eq_getElem hk, e])
          simp
          omega
        clear hall
        go_wp2
        go_ret
        exact ⟨by rw [unhide HW]; rfl, rfl⟩
end Go.Proofs.YtmpgaecnibakdaaDoor
