/- Split, as the program answers. -/
import Derived.Test.YtepkifledonldaaParts
import Derived.Test.YtepkifledonldaaFitting
namespace Go.Proofs.Ytepkifledonldaa
open Go.ChangeShapes Go.WideShapes Go.ChangeAt Go.RowKit

set_option maxRecDepth 10000 in
set_option maxHeartbeats 1000000 in
theorem split_none (n : Nd) (ai ak : Option Addr) (ci ck : Nat) (w : World) (hn : Has w n ai ak) (hil : n.its.length ≤ 1100) (hkl : n.kds.length ≤ 1100) (hr : rightB n = false) :
    Calls Try.prog 21 #[.agg #[.bool n.leaf, .slice ai n.its.length ci, .slice ak n.kds.length ck]] w fun e w' => e = .returned (.slice none 0 0) ∧ Below w.heap.size w w' := by
  have hb0 := below_alloc w (.cells #[.bool n.leaf, .slice ai n.its.length ci, .slice ak n.kds.length ck] 25)
  have HR := hide (isRight_any n ai ak ci ck _ (hn.grow hb0) (by omega) (by omega))
  rw [hr] at HR
  have HB := hide hb0
  clear hb0 hn hr
  go_enter Try.func21, Try.ntmps21
  go_wp2_with fail
  refine (unhide HR).mono ?_
  rintro x w2 ⟨rfl, hb⟩
  have HB := hide (below_then (unhide HB) hb)
  clear hb
  go_wp2
  go_ret
  exact ⟨rfl, unhide HB⟩

/-- where the cut stands: the parts so far, what is left -/
def Cutto {α : Type} (g : α → List Nat) (l : List α) (ps : List (List α)) (r : List α) : Prop := Cut.parts g [] l = ps ++ (if r = [] then [] else Cut.parts g [] r)
theorem Cutto.start {α : Type} (g : α → List Nat) {l : List α} (h : l ≠ []) : Cutto g l [] l := by unfold Cutto; rw [if_neg h]; rfl
theorem Cutto.next {α : Type} {g : α → List Nat} {l r : List α} {ps : List (List α)} (h : Cutto g l ps r) (hr : r ≠ []) (hs : ∀ x ∈ r, ¬ 1007 < Cut.size g [x]) : Cutto g l (ps ++ [r.take (Cut.fit g [] r)]) (r.drop (Cut.fit g [] r)) := by
  unfold Cutto at *
  rw [h, if_neg hr, Cut.parts_fit g hs []]
  simp
theorem Cutto.done {α : Type} {g : α → List Nat} {l : List α} {ps : List (List α)} (h : Cutto g l ps []) : Cut.parts g [] l = ps := by
  unfold Cutto at h
  rw [if_pos rfl, List.append_nil] at h
  exact h
theorem drop_mem {α : Type} {l : List α} {k : Nat} {x : α} (h : x ∈ l.drop k) : x ∈ l := List.mem_of_mem_drop h
theorem flat_drop {α : Type} (g : α → List Nat) (l : List α) (k : Nat) : ((l.drop k).flatMap g).length ≤ (l.flatMap g).length := by
  conv => rhs; rw [← List.take_append_drop k l, List.flatMap_append, List.length_append]
  omega
theorem OwnP.base {β : Type} {sv : β → Value} {T : TypeId} {pc : Pt β → List Value} {B B' : Nat} {w : World} {v : Value} {ps : List (Pt β)} (h : OwnP sv T pc B w v ps) (hB : B' ≤ B) : OwnP sv T pc B' w v ps :=
  ⟨ownsRow_base h.row hB, fun x hx => (h.its x hx).base hB⟩
/-- what is left behind a cut -/
theorem Row.rest {β : Type} {sv : β → Value} {w : World} {b off cap cc : Nat} {R : List (ByteArray × β)} (h : RowAt sv w b off R) (hc : R.length ≤ cap) : Row sv w (if cap = cc then some ⟨b, off, none⟩ else some ⟨b, off + cc * 2, none⟩) (R.drop cc) := by
  split
  · rename_i e
    exact .inl (List.drop_of_length_le (by omega))
  · exact .inr ⟨b, off + cc * 2, rfl, Row.drop h cc⟩

set_option maxRecDepth 10000 in
set_option maxHeartbeats 8000000 in
theorem splitI (ai ak : Option Addr) (ci ck : Nat) (its : List It) (w : World) (hr : Row Value.string w ai its) (hl : its.length ≤ 1100) (hcap : its.length ≤ ci) (hright : rightB ⟨true, its, []⟩ = true) :
    Calls Try.prog 21 #[.agg #[.bool true, .slice ai its.length ci, .slice ak 0 ck]] w fun e w' => ∃ a cap ps, e = .returned (.slice a ps.length cap) ∧ OwnP Value.string 47 pcI w.heap.size w' (.slice a ps.length cap) ps ∧ ps.map (fun x => x.l) = Cut.parts itL [] its ∧ Below w.heap.size w w' := by
  obtain ⟨_, hne, hrise⟩ := right_leaf hright
  have HNE := hide hne
  have HMY := hide (rise_all _ _ hrise)
  have hb0 := below_alloc w (.cells #[.bool true, .slice ai its.length ci, .slice ak 0 ck] 25)
  have HI := hide (isRight_any ⟨true, its, []⟩ ai ak ci ck _ (⟨hr.grow hb0, .inl rfl⟩) (Nat.le_trans hl (by decide)) (Nat.zero_le _))
  rw [hright] at HI
  have HR := hide (hr.grow hb0)
  have HBW := hide hb0
  have HQ := hide (Nblk.new w true ai ak its.length ci 0 ck)
  have hmf : ∀ (fn : Fn) (first cap : Array Value) (w : World), (Instr.makeFunc fn first cap).run Try.prog w = .ok (.func fn first cap) w := fun _ _ _ _ => rfl
  clear hr hb0 hne hrise hright
  go_enter Try.func21, Try.ntmps21
  go_wp2_with fail
  obtain ⟨p, hp⟩ : ∃ y, y = w.heap.size := ⟨_, rfl⟩
  rw [← hp] at HQ ⊢
  clear hp
  generalize w.alloc (.cells #[.bool true, .slice ai its.length ci, .slice ak 0 ck] 25) = w0 at *
  refine (unhide HI).mono ?_
  rintro x w1 ⟨rfl, hb⟩
  have HB0 := hide hb
  have q1 := ((unhide HQ).below hb).cell1
  have q2 := ((unhide HQ).below hb).cell2
  clear hb HI
  go_wp2
  go_loopw [3, 4] (fun v u wr => ∃ (k : Nat) (ps : List (Pt ByteArray)) (a : Option Addr) (cap : Nat), u = .slice a (its.drop k).length cap ∧ (its.drop k).length ≤ cap ∧ Cutto itL its (ps.map (fun x => x.l)) (its.drop k) ∧ ps.length ≤ k ∧ Row Value.string w0 a (its.drop k) ∧ OwnP Value.string 47 pcI w0.heap.size wr v ps ∧ Below w0.heap.size w0 wr) (fun _ u _ => lenV u)
  case atStart => exact ⟨0, [], ai, ci, rfl, hcap, Cutto.start itL (unhide HNE), Nat.zero_le _, unhide HR, OwnP.nil, unhide HB0⟩
  case round =>
    obtain ⟨k, ps, a, cap, rfl, hrc, hct, hpk, hrw, hown, hbel⟩ := hrel
    have HCT := hide hct
    have HRW := hide hrw
    have HO := hide hown
    have HBel := hide hbel
    have hmy := unhide HMY
    obtain ⟨av, capv, rfl⟩ := hown.form
    obtain ⟨R, hR⟩ : ∃ R, R = its.drop k := ⟨_, rfl⟩
    have hRl : R.length = its.length - k := by rw [hR]; simp
    rw [← hR] at HCT HRW hrc ⊢
    have HR2 := hide hR
    have HRL := hide hRl
    have hRb : R.length ≤ 1100 := by omega
    clear hct hrw hown hbel hRl
    by_cases hlt : 0 < R.length
    · have hne : R ≠ [] := by intro e; rw [e] at hlt; simp at hlt
      have hpl : ps.length ≤ 1100 := by have := unhide HRL; omega
      have hmR : ∀ x ∈ R, mayI x = true := fun x hx => hmy x (drop_mem (by rw [← hR]; exact hx))
      have hsz : ∀ x ∈ R, ¬ 1007 < Cut.size itL [x] := by
        intro x hx
        have h1 := itL_le (hmR x hx)
        have h2 := Pk.shL_le 1
        unfold Cut.size sz
        simp
        omega
      have HNX := hide ((unhide HCT).next hne hsz)
      have hcl := Cut.fit_le itL [] R
      have hcp : 0 < Cut.fit itL [] R := by
        cases hRe : R with
        | nil => exact absurd hRe hne
        | cons x t => exact Cut.fit_pos itL (by have := hsz x (by rw [hRe]; exact List.mem_cons_self); exact this)
      have hfl : (R.flatMap itL).length ≤ 900000 := Nat.le_trans (flat_le R (fun x hx => itL_le (hmR x hx))) (by omega)
      have hbw := below_alloc wr (.cells #[.int .i64 0, .slice none 0 0] 71)
      have HC := hide (fittingI_any wr.heap.size wr.heap.size a cap R _ (Wr.new wr) ((unhide HRW).grow (below_then (unhide HBel) hbw)) (new_low wr _) (by omega) hfl)
      obtain ⟨b, off, rfl, hrow⟩ := (unhide HRW).at hlt
      have HROW := hide hrow
      clear hne hsz hfl hrow HRW HCT hR
      generalize Cut.fit itL [] R = cc at *
      go_wp2_with fail
      refine (unhide HC).mono ?_
      rintro x w2 ⟨rfl, hb⟩
      have HB2 := hide (below_then (unhide HBel) ((hbw).trans hb))
      have HO2 := hide ((unhide HO).below ((hbw).trans hb))
      clear hb hbw HC
      have i1 : (0 : Int) ≤ (cc : Int) := by omega
      have i2 : (cc : Int) ≤ (R.length : Int) := by omega
      have i3 : cc ≤ cap := by omega
      have hck : (R.take cc).length = cc := by rw [List.length_take]; omega
      have hbs := below_alloc w2 (.cells #[.slice (some ⟨b, off, none⟩) cc cap] 22)
      have hl3 := leafOf_any w2.heap.size (some ⟨b, off, none⟩) cap (R.take cc) (w2.alloc (.cells #[.slice (some ⟨b, off, none⟩) cc cap] 22)) (by rw [hck]; simp) (Row.take (.inr ⟨b, off, rfl, (unhide HROW).grow (below_then (unhide HB2) hbs)⟩) cc) (by omega) (fun x hx => by have := hmR x (List.mem_of_mem_take hx); simp [mayI] at this; omega)
      rw [hck] at hl3
      have HL3 := hide hl3
      have HB2 := hide (below_then (unhide HB2) hbs)
      have HO2 := hide ((unhide HO2).below hbs)
      clear hl3 hbs
      go_wp2_with fail
      refine (unhide HL3).mono ?_
      rintro x w3 ⟨a', cap', rfl, hoe, hb⟩
      have hzz : w0.heap.size ≤ (w2.alloc (.cells #[.slice (some ⟨b, off, none⟩) cc cap] 22)).heap.size := (unhide HB2).size
      have HB3 := hide (below_then (unhide HB2) hb)
      have HO3 := hide ((unhide HO2).below hb)
      have HOE := hide (hoe.base hzz)
      have hBz : w0.heap.size ≤ w3.heap.size := Nat.le_trans hzz hb.size
      clear hb hoe HB2 HO2 HL3 hzz
      go_wp2_with (at_builtin; refine app_gen (news := [.bool true, .slice a' cc cap', .slice none 0 0]) Try.underlying44 info25 rfl (by decide) rfl _ _ rfl rfl rfl (unhide HO3).row hBz rfl ?_ ?_ ?_ ?_; (exact three_one rfl rfl rfl); omega; omega; intro a5 cap5 w5 ho' hg' _; have HO5 := hide (OwnP.snoc (x := ⟨a', cap', none, 0, R.take cc⟩) (unhide HO3) (by decide) (by show OwnE _ _ _ _ (.slice a' (R.take cc).length cap') _; rw [hck]; exact unhide HOE) hg' (by have := ho'; simpa [pcI, hck] using this)); have HB5 := hide ((unhide HB3).grown hg' hBz (fun g hg => (World.ownsRow.lt (unhide HO3).row g hg).1)); clear ho' hg')
      have hdl : (R.drop cc).length = R.length - cc := by simp
      have hdd : R.drop cc = its.drop (k + cc) := by rw [unhide HR2, List.drop_drop]
      go_roundw
      case rel =>
        refine ⟨k + cc, ps ++ [⟨a', cap', none, 0, R.take cc⟩], (if cap = cc then some ⟨b, off, none⟩ else some ⟨b, off + cc * 2, none⟩), cap - cc, ?_, ?_, ?_, ?_, ?_, ?_, unhide HB5⟩
        · rw [← hdd, hdl]
        · rw [← hdd, hdl]
          omega
        · rw [← hdd, List.map_append]
          exact unhide HNX
        · rw [List.length_append]
          show ps.length + 1 ≤ _
          omega
        · rw [← hdd]
          exact Row.rest (cc := cc) (unhide HROW) hrc
        · exact unhide HO5
      case measure =>
        show R.length - cc < R.length
        omega
    · have hnil : R = [] := List.length_eq_zero_iff.1 (by omega)
      have hdn := unhide HCT
      rw [hnil] at hdn
      have HDN := hide hdn.done
      have q2' := ((unhide HQ).below (unhide HBel)).cell2
      have hz : R.length = 0 := by omega
      clear hdn hnil hR hlt
      go_wp2
      go_loop [3, 6] (fun v u => v = .slice av ps.length capv ∧ u = .slice ak 0 ck) (fun _ _ => 0)
      case atStart => exact ⟨rfl, rfl⟩
      case round =>
        obtain ⟨rfl, rfl⟩ := hrel
        go_wp2
        go_ret
        exact ⟨av, capv, ps, rfl, (unhide HO).base (unhide HBW).size, (unhide HDN).symm, below_then (unhide HBW) (unhide HBel)⟩

set_option maxRecDepth 10000 in
set_option maxHeartbeats 8000000 in
theorem splitK (ai ak : Option Addr) (ci ck : Nat) (kds : List Kd) (w : World) (hr : Row kv w ak kds) (hl : kds.length ≤ 1100) (hcap : kds.length ≤ ck) (hright : rightB ⟨false, [], kds⟩ = true) :
    Calls Try.prog 21 #[.agg #[.bool false, .slice ai 0 ci, .slice ak kds.length ck]] w fun e w' => ∃ a cap ps, e = .returned (.slice a ps.length cap) ∧ OwnP kv 49 pcK w.heap.size w' (.slice a ps.length cap) ps ∧ ps.map (fun x => x.l) = Cut.parts kdL [] kds ∧ Below w.heap.size w w' := by
  obtain ⟨_, hne, hrise⟩ := right_kids hright
  have HNE := hide hne
  have HMY := hide (rise_all _ _ hrise)
  have hb0 := below_alloc w (.cells #[.bool false, .slice ai 0 ci, .slice ak kds.length ck] 25)
  have HI := hide (isRight_any ⟨false, [], kds⟩ ai ak ci ck _ (⟨.inl rfl, hr.grow hb0⟩) (Nat.zero_le _) (Nat.le_trans hl (by decide)))
  rw [hright] at HI
  have HR := hide (hr.grow hb0)
  have HBW := hide hb0
  have HQ := hide (Nblk.new w false ai ak 0 ci kds.length ck)
  have hmf : ∀ (fn : Fn) (first cap : Array Value) (w : World), (Instr.makeFunc fn first cap).run Try.prog w = .ok (.func fn first cap) w := fun _ _ _ _ => rfl
  clear hr hb0 hne hrise hright
  go_enter Try.func21, Try.ntmps21
  go_wp2_with fail
  obtain ⟨p, hp⟩ : ∃ y, y = w.heap.size := ⟨_, rfl⟩
  rw [← hp] at HQ ⊢
  clear hp
  generalize w.alloc (.cells #[.bool false, .slice ai 0 ci, .slice ak kds.length ck] 25) = w0 at *
  refine (unhide HI).mono ?_
  rintro x w1 ⟨rfl, hb⟩
  have HB0 := hide hb
  have q1 := ((unhide HQ).below hb).cell1
  have q2 := ((unhide HQ).below hb).cell2
  clear hb HI
  go_wp2
  go_loop [3, 4] (fun v u => v = .slice none 0 0 ∧ u = .slice ai 0 ci) (fun _ _ => 0)
  case atStart => exact ⟨rfl, rfl⟩
  case round =>
    obtain ⟨rfl, rfl⟩ := hrel
    go_wp2
    go_loopw [3, 6] (fun v u wr => ∃ (k : Nat) (ps : List (Pt Int)) (a : Option Addr) (cap : Nat), u = .slice a (kds.drop k).length cap ∧ (kds.drop k).length ≤ cap ∧ Cutto kdL kds (ps.map (fun x => x.l)) (kds.drop k) ∧ ps.length ≤ k ∧ Row kv w0 a (kds.drop k) ∧ OwnP kv 49 pcK w0.heap.size wr v ps ∧ Below w0.heap.size w0 wr) (fun _ u _ => lenV u)
    case atStart => exact ⟨0, [], ak, ck, rfl, hcap, Cutto.start kdL (unhide HNE), Nat.zero_le _, unhide HR, OwnP.nil, unhide HB0⟩
    case round =>
      obtain ⟨k, ps, a, cap, rfl, hrc, hct, hpk, hrw, hown, hbel⟩ := hrel
      have HCT := hide hct
      have HRW := hide hrw
      have HO := hide hown
      have HBel := hide hbel
      have hmy := unhide HMY
      obtain ⟨av, capv, rfl⟩ := hown.form
      obtain ⟨R, hR⟩ : ∃ R, R = kds.drop k := ⟨_, rfl⟩
      have hRl : R.length = kds.length - k := by rw [hR]; simp
      rw [← hR] at HCT HRW hrc ⊢
      have HR2 := hide hR
      have HRL := hide hRl
      have hRb : R.length ≤ 1100 := by omega
      clear hct hrw hown hbel hRl
      by_cases hlt : 0 < R.length
      · have hne : R ≠ [] := by intro e; rw [e] at hlt; simp at hlt
        have hpl : ps.length ≤ 1100 := by have := unhide HRL; omega
        have hmR : ∀ x ∈ R, mayK x = true := fun x hx => hmy x (drop_mem (by rw [← hR]; exact hx))
        have hsz : ∀ x ∈ R, ¬ 1007 < Cut.size kdL [x] := by
          intro x hx
          have h1 := kdL_le (hmR x hx)
          have h2 := Pk.shL_le 1
          unfold Cut.size sz
          simp
          omega
        have HNX := hide ((unhide HCT).next hne hsz)
        have hcl := Cut.fit_le kdL [] R
        have hcp : 0 < Cut.fit kdL [] R := by
          cases hRe : R with
          | nil => exact absurd hRe hne
          | cons x t => exact Cut.fit_pos kdL (by have := hsz x (by rw [hRe]; exact List.mem_cons_self); exact this)
        have hfl : (R.flatMap kdL).length ≤ 900000 := Nat.le_trans (flat_le R (fun x hx => kdL_le (hmR x hx))) (by omega)
        have hbw := below_alloc wr (.cells #[.int .i64 0, .slice none 0 0] 71)
        have HC := hide (fittingK_any wr.heap.size wr.heap.size a cap R _ (Wr.new wr) ((unhide HRW).grow (below_then (unhide HBel) hbw)) (new_low wr _) (fun x hx => mayK_place (hmR x hx)) (by omega) hfl)
        obtain ⟨b, off, rfl, hrow⟩ := (unhide HRW).at hlt
        have HROW := hide hrow
        clear hne hsz hfl hrow HRW HCT hR
        generalize Cut.fit kdL [] R = cc at *
        go_wp2_with fail
        refine (unhide HC).mono ?_
        rintro x w2 ⟨rfl, hb⟩
        have HB2 := hide (below_then (unhide HBel) ((hbw).trans hb))
        have HO2 := hide ((unhide HO).below ((hbw).trans hb))
        clear hb hbw HC
        have i1 : (0 : Int) ≤ (cc : Int) := by omega
        have i2 : (cc : Int) ≤ (R.length : Int) := by omega
        have i3 : cc ≤ cap := by omega
        have hck : (R.take cc).length = cc := by rw [List.length_take]; omega
        have hbs := below_alloc w2 (.cells #[.slice (some ⟨b, off, none⟩) cc cap] 23)
        have hl3 := kidsOf_any w2.heap.size (some ⟨b, off, none⟩) cap (R.take cc) (w2.alloc (.cells #[.slice (some ⟨b, off, none⟩) cc cap] 23)) (by rw [hck]; simp) (Row.take (.inr ⟨b, off, rfl, (unhide HROW).grow (below_then (unhide HB2) hbs)⟩) cc) (by omega) (fun x hx => by have := hmR x (List.mem_of_mem_take hx); simp [mayK] at this; omega)
        rw [hck] at hl3
        have HL3 := hide hl3
        have HB2 := hide (below_then (unhide HB2) hbs)
        have HO2 := hide ((unhide HO2).below hbs)
        clear hl3 hbs
        go_wp2_with fail
        refine (unhide HL3).mono ?_
        rintro x w3 ⟨a', cap', rfl, hoe, hb⟩
        have hzz : w0.heap.size ≤ (w2.alloc (.cells #[.slice (some ⟨b, off, none⟩) cc cap] 23)).heap.size := (unhide HB2).size
        have HB3 := hide (below_then (unhide HB2) hb)
        have HO3 := hide ((unhide HO2).below hb)
        have HOE := hide (hoe.base hzz)
        have hBz : w0.heap.size ≤ w3.heap.size := Nat.le_trans hzz hb.size
        clear hb hoe HB2 HO2 HL3 hzz
        go_wp2_with (at_builtin; refine app_gen (news := [.bool false, .slice none 0 0, .slice a' cc cap']) Try.underlying44 info25 rfl (by decide) rfl _ _ rfl rfl rfl (unhide HO3).row hBz rfl ?_ ?_ ?_ ?_; (exact three_one rfl rfl rfl); omega; omega; intro a5 cap5 w5 ho' hg' _; have HO5 := hide (OwnP.snoc (x := ⟨a', cap', none, 0, R.take cc⟩) (unhide HO3) (by decide) (by show OwnE _ _ _ _ (.slice a' (R.take cc).length cap') _; rw [hck]; exact unhide HOE) hg' (by have := ho'; simpa [pcK, hck] using this)); have HB5 := hide ((unhide HB3).grown hg' hBz (fun g hg => (World.ownsRow.lt (unhide HO3).row g hg).1)); clear ho' hg')
        have hdl : (R.drop cc).length = R.length - cc := by simp
        have hdd : R.drop cc = kds.drop (k + cc) := by rw [unhide HR2, List.drop_drop]
        go_roundw
        case rel =>
          refine ⟨k + cc, ps ++ [⟨a', cap', none, 0, R.take cc⟩], (if cap = cc then some ⟨b, off, none⟩ else some ⟨b, off + cc * 2, none⟩), cap - cc, ?_, ?_, ?_, ?_, ?_, ?_, unhide HB5⟩
          · rw [← hdd, hdl]
          · rw [← hdd, hdl]
            omega
          · rw [← hdd, List.map_append]
            exact unhide HNX
          · rw [List.length_append]
            show ps.length + 1 ≤ _
            omega
          · rw [← hdd]
            exact Row.rest (cc := cc) (unhide HROW) hrc
          · exact unhide HO5
        case measure =>
          show R.length - cc < R.length
          omega
      · have hnil : R = [] := List.length_eq_zero_iff.1 (by omega)
        have hdn := unhide HCT
        rw [hnil] at hdn
        have HDN := hide hdn.done
        have q2' := ((unhide HQ).below (unhide HBel)).cell2
        have hz : R.length = 0 := by omega
        clear hdn hnil hR hlt
        go_wp2
        go_ret
        exact ⟨av, capv, ps, rfl, (unhide HO).base (unhide HBW).size, (unhide HDN).symm, below_then (unhide HBW) (unhide HBel)⟩
end Go.Proofs.Ytepkifledonldaa
