/- Parts of a node: small facts. -/
import Derived.Test.YtepkifledonldaaRefspli
import Derived.Test.YtepkifledonldaaRefsplk
import Derived.Test.YtepkifledonldaaSame
import Derived.Test.YtepkifledonldaaLawwrites
namespace Go.Proofs.Ytepkifledonldaa
open Go.ChangeShapes Go.WideShapes Go.ChangeAt Go.RowKit

/- The document's Split of a node that isn't right; what both Splits have made. -/
set_option maxRecDepth 10000 in
set_option maxHeartbeats 1000000 in
theorem refSplit_none (n : Nd) (ai ak : Option Addr) (ci ck : Nat) (w : World) (hn : Has w n ai ak) (hil : n.its.length ≤ 1100) (hkl : n.kds.length ≤ 1100) (hr : rightB n = false) :
    Calls Try.prog 22 #[.agg #[.bool n.leaf, .slice ai n.its.length ci, .slice ak n.kds.length ck]] w fun e w' => e = .returned (.slice none 0 0) ∧ Below w.heap.size w w' := by
  have hb0 := below_alloc w (.cells #[.bool n.leaf, .slice ai n.its.length ci, .slice ak n.kds.length ck] 25)
  have HR := hide (refRight_any n ai ak ci ck _ (hn.grow hb0) (by omega) (by omega))
  rw [hr] at HR
  have HB := hide hb0
  clear hb0 hn hr
  go_enter Try.func22, Try.ntmps22
  go_wp2_with fail
  refine (unhide HR).mono ?_
  rintro x w2 ⟨rfl, hb⟩
  have HB := hide (below_then (unhide HB) hb)
  clear hb
  go_wp2
  go_ret
  exact ⟨rfl, unhide HB⟩
theorem checkN_wrong {n : Nd} (h : rightB n = false) : checkN n = 60 := by
  unfold checkN
  rw [h]
  rfl
theorem checkN_two {n : Nd} (h : rightB n = true) : checkN n = 0 ∨ checkN n = 61 := by
  unfold checkN
  rw [if_pos h]
  split
  · exact .inr rfl
  · exact .inl rfl
/-- the parts that both Splits have made -/
def Pair2 {β : Type} (sv : β → Value) (T : TypeId) (pc : Pt β → List Value) (w3 : World) (PS : List (List (ByteArray × β))) (s3 s4 : Value) (wc : World) : Prop :=
  ∃ a1 c1 ps1 a2 c2 ps2, s3 = .slice a1 PS.length c1 ∧ s4 = .slice a2 PS.length c2 ∧ OwnP sv T pc w3.heap.size wc (.slice a1 PS.length c1) ps1 ∧ OwnP sv T pc w3.heap.size wc (.slice a2 PS.length c2) ps2 ∧ ps1.map (fun x => x.l) = PS ∧ ps2.map (fun x => x.l) = PS ∧ Below w3.heap.size w3 wc
theorem Pair2.mk' {β : Type} {sv : β → Value} {T : TypeId} {pc : Pt β → List Value} {w3 wc : World} {PS : List (List (ByteArray × β))} {a1 a2 : Option Addr} {c1 c2 : Nat} {ps1 ps2 : List (Pt β)}
    (h1 : OwnP sv T pc w3.heap.size wc (.slice a1 ps1.length c1) ps1) (h2 : OwnP sv T pc w3.heap.size wc (.slice a2 ps2.length c2) ps2) (e1 : ps1.map (fun x => x.l) = PS) (e2 : ps2.map (fun x => x.l) = PS) (hb : Below w3.heap.size w3 wc) :
    Pair2 sv T pc w3 PS (.slice a1 ps1.length c1) (.slice a2 ps2.length c2) wc := by
  have l1 : ps1.length = PS.length := by rw [← e1, List.length_map]
  have l2 : ps2.length = PS.length := by rw [← e2, List.length_map]
  rw [l1] at h1
  rw [l2] at h2
  exact ⟨a1, c1, ps1, a2, c2, ps2, by rw [l1], by rw [l2], h1, h2, e1, e2, hb⟩
/-- append of nothing to nothing -/
theorem step_none {ops : Array Oper} {o : Oper} {a : Act} {K : Act → World → Prop} {Q : Exit → Act → World → Prop} {E : Prop} {t e : TypeId} {z : Value} {size bytes : Nat} {w : World} {b : Option Addr} {d : Nat}
    (hgd : o.guard = none) (ht : Try.prog.underlying t = some (.slice e)) (hinfo : (Try.prog.info? e).map (fun i => (i.zero, i.size, i.bytes)) = some (some z, size, bytes))
    (s x : Operand) (ho : o.op = .call { callee := .builtin .append, args := #[s, x], argTypes := #[t, t] }) (hs : a.eval s = .slice none 0 0) (hx : a.eval x = .slice b 0 d) (h : K (a.put o.dst (.slice none 0 0)) w) :
    if Region.wanted o (yielded ops a.tmps) = true then Oper.wp Try.prog o a w K Q else E := by
  have hw : Region.wanted o (yielded ops a.tmps) = true := by simp [Region.wanted, hgd]
  rw [if_pos hw]
  obtain ⟨i0, hi, hz0, hz1, hz2⟩ := info_parts hinfo
  have hr : (Builtin.append_ #[t, t] o.type #[.slice none 0 0, .slice b 0 d]).run Try.prog w = .ok (.slice none 0 0) w := by
    cases b <;> simp [Builtin.append_, run_underlying ht, sizeOf, typeInfo, hi, Builtin.lenOf, Builtin.firstCells, loadCells, loadCellsFrom]
  unfold Oper.wp execOp
  simp only [ho, resolve, invoke, builtin, Sem.run_bind, Sem.run_pure, Result.andThen_ok, List.map_toArray, List.map_cons, List.map_nil, hs, hx, hr]
  exact h
/- Parts of a node: small facts. -/
theorem part_len {α : Type} {PS : List (List α)} {p : List α} (h : p ∈ PS) : p.length ≤ PS.flatten.length := by
  induction PS with
  | nil => cases h
  | cons q t ih =>
    rw [List.flatten_cons, List.length_append]
    rcases List.mem_cons.1 h with rfl | h
    · omega
    · have := ih h
      omega
theorem take_len {α : Type} (PS : List (List α)) (k : Nat) : (PS.take k).flatten.length ≤ PS.flatten.length := by
  conv => rhs; rw [← List.take_append_drop k PS, List.flatten_append, List.length_append]
  omega
theorem take_next {α : Type} {PS : List (List α)} {k : Nat} {p : List α} (h : PS[k]? = some p) : (PS.take k).flatten ++ p = (PS.take (k + 1)).flatten := by
  rw [List.take_add_one, h, List.flatten_append]
  simp
theorem OwnE.joins {β : Type} {sv : β → Value} {T : TypeId} {B : Nat} {w : World} {v : Value} {l r : List (ByteArray × β)} (h : w.ownsRow B T 2 v (l.length + r.length) (pairs sv l ++ pairs sv r)) : OwnE sv T B w v (l ++ r) := by
  unfold OwnE
  rw [List.length_append]
  have e : pairs sv (l ++ r) = pairs sv l ++ pairs sv r := List.flatMap_append
  rw [e]
  exact h
end Go.Proofs.Ytepkifledonldaa
