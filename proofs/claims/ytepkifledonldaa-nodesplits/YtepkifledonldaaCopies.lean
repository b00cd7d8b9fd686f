/- A list of entries is copied; a node of one list. -/
import Derived.Test.YtepkifledonldaaCopyone
import Derived.Test.YtepkifledonldaaDst
namespace Go.Proofs.Ytepkifledonldaa
open Go.ChangeShapes Go.WideShapes Go.ChangeAt Go.RowKit

theorem take_snoc {α : Type} {l : List α} {k : Nat} {x : α} (h : l[k]? = some x) : l.take (k + 1) = l.take k ++ [x] := by
  rw [List.take_add_one, h]
  rfl

set_option maxRecDepth 10000 in
set_option maxHeartbeats 4000000 in
theorem copiesI_any (h : Nat) (a : Option Addr) (cap : Nat) (l : List It) (w : World) (hc : w.cell? ⟨h, 0, none⟩ = some (.slice a l.length cap)) (hr : Row Value.string w a l) (hl : l.length ≤ 1100) (hm : ∀ x ∈ l, x.1.size ≤ 1000 ∧ x.2.size ≤ 1000) :
    Calls Try.prog 61 #[.func (.func 62) #[] #[], .slice (some ⟨h, 0, none⟩) 1 1] w fun e w' => ∃ a' cap', e = .returned (.slice a' l.length cap') ∧ OwnE Value.string 47 w.heap.size w' (.slice a' l.length cap') l ∧ Below w.heap.size w w' := by
  have HC := hide hc
  have HR := hide hr
  clear hr
  go_enter Try.func61, Try.ntmps61
  go_wp2
  go_loopw [5, 12] (fun v t wr => (t = .int .i64 0 ∧ OwnE Value.string 47 w.heap.size wr v [] ∧ Below w.heap.size w wr) ∨ (t = .int .i64 1 ∧ OwnE Value.string 47 w.heap.size wr v l ∧ Below w.heap.size w wr)) (fun _ t _ => 1 - (intOf t).toNat)
  case atStart => exact .inl ⟨rfl, OwnE.nil _ _ _ _, Below.refl _ _⟩
  case round =>
    rcases hrel with ⟨rfl, hown, hbel⟩ | ⟨rfl, hown, hbel⟩
    · have HO1 := hide hown
      have HBel := hide hbel
      have hc0 := cell_keep hc hbel
      clear hown hbel
      go_wp2
      go_loopw [5, 18] (fun v t wq => ∃ k : Nat, k ≤ l.length ∧ t = .int .i64 k ∧ OwnE Value.string 47 w.heap.size wq v (l.take k) ∧ Below w.heap.size w wq) (fun _ t _ => l.length - (intOf t).toNat)
      case atStart => exact ⟨0, Nat.zero_le _, rfl, unhide HO1, unhide HBel⟩
      case round =>
        clear HO1 HBel hc0
        obtain ⟨k, hk, rfl, hown, hbel⟩ := hrel
        have HO := hide hown
        have HBel := hide hbel
        obtain ⟨a0, cap0, rfl⟩ := hown.form
        have hkl : (l.take k).length = k := by rw [List.length_take]; omega
        clear hown hbel
        by_cases hlt : k < l.length
        · obtain ⟨b, off, rfl, hr⟩ := (unhide HR).at hlt
          obtain ⟨⟨key, val⟩, hx⟩ := get_some hlt
          have c0 := cell_keep_of (unhide HBel) (hr k _ hx).1
          have c1 := cell_keep_of (unhide HBel) (hr k _ hx).2
          simp only at c0 c1
          have HX := hide (take_snoc hx)
          have HCP := hide (fun W => copyItem_any key val W (by have := hm _ (List.mem_of_getElem? hx); simp only at this; omega) (by have := hm _ (List.mem_of_getElem? hx); simp only at this; omega))
          have hba := below_alloc wr (.cells #[.string key, .string val] 47)
          have HOA := hide ((unhide HO).below hba)
          have HBA := hide (below_then (unhide HBel) hba)
          clear hx hr HR hba
          go_wp2_with fail
          refine (unhide HCP _).mono ?_
          rintro e w3 ⟨rfl, hb⟩
          have ho3 := (unhide HOA).below hb
          unfold OwnE at ho3
          rw [hkl] at ho3
          have HO3 := hide ho3
          have HB3 := hide (below_then (unhide HBA) hb)
          clear hb HOA HBA HCP ho3 HO
          rw [hkl]
          have hBz := (unhide HB3).size
          go_wp2_with (at_builtin; refine app_gen (news := [.string key, .string val]) Try.underlying22 info47 rfl (by decide) rfl _ _ rfl rfl rfl (unhide HO3) hBz rfl ?_ ?_ ?_ ?_; (exact pair_one rfl); omega; omega; intro a' cap' w5 ho' hg' _; have HO5 := hide ho'; have HB5 := hide ((unhide HB3).grown hg' hBz (fun g hg => (World.ownsRow.lt (unhide HO3) g hg).1)); clear ho' hg')
          go_roundw
          case rel =>
            refine ⟨k + 1, by omega, by go_num, ?_, unhide HB5⟩
            have ho := unhide HO5
            rw [unhide HX]
            exact OwnE.snoc (sv := Value.string) (x := (key, val)) (by rw [hkl]; exact ho)
          case measure => simp [intOf]; omega
        · obtain rfl : k = l.length := by omega
          have ho := unhide HO
          rw [List.take_length] at ho
          have HO2 := hide ho
          rw [List.take_length]
          clear HO ho
          go_wp2
          go_roundw
          case rel => exact .inr ⟨rfl, unhide HO2, unhide HBel⟩
          case measure => simp [intOf]
    · obtain ⟨a0, cap0, rfl⟩ := hown.form
      have HO1 := hide hown
      have HBel := hide hbel
      clear hown hbel
      go_wp2
      go_ret
      exact ⟨a0, cap0, rfl, unhide HO1, unhide HBel⟩

set_option maxRecDepth 10000 in
set_option maxHeartbeats 4000000 in
theorem copiesK_any (h : Nat) (a : Option Addr) (cap : Nat) (l : List Kd) (w : World) (hc : w.cell? ⟨h, 0, none⟩ = some (.slice a l.length cap)) (hr : Row kv w a l) (hl : l.length ≤ 1100) (hm : ∀ x ∈ l, x.1.size ≤ 1000) :
    Calls Try.prog 64 #[.func (.func 65) #[] #[], .slice (some ⟨h, 0, none⟩) 1 1] w fun e w' => ∃ a' cap', e = .returned (.slice a' l.length cap') ∧ OwnE kv 49 w.heap.size w' (.slice a' l.length cap') l ∧ Below w.heap.size w w' := by
  have HC := hide hc
  have HR := hide hr
  clear hr
  go_enter Try.func64, Try.ntmps64
  go_wp2
  go_loopw [5, 12] (fun v t wr => (t = .int .i64 0 ∧ OwnE kv 49 w.heap.size wr v [] ∧ Below w.heap.size w wr) ∨ (t = .int .i64 1 ∧ OwnE kv 49 w.heap.size wr v l ∧ Below w.heap.size w wr)) (fun _ t _ => 1 - (intOf t).toNat)
  case atStart => exact .inl ⟨rfl, OwnE.nil _ _ _ _, Below.refl _ _⟩
  case round =>
    rcases hrel with ⟨rfl, hown, hbel⟩ | ⟨rfl, hown, hbel⟩
    · have HO1 := hide hown
      have HBel := hide hbel
      have hc0 := cell_keep hc hbel
      clear hown hbel
      go_wp2
      go_loopw [5, 18] (fun v t wq => ∃ k : Nat, k ≤ l.length ∧ t = .int .i64 k ∧ OwnE kv 49 w.heap.size wq v (l.take k) ∧ Below w.heap.size w wq) (fun _ t _ => l.length - (intOf t).toNat)
      case atStart => exact ⟨0, Nat.zero_le _, rfl, unhide HO1, unhide HBel⟩
      case round =>
        clear HO1 HBel hc0
        obtain ⟨k, hk, rfl, hown, hbel⟩ := hrel
        have HO := hide hown
        have HBel := hide hbel
        obtain ⟨a0, cap0, rfl⟩ := hown.form
        have hkl : (l.take k).length = k := by rw [List.length_take]; omega
        clear hown hbel
        by_cases hlt : k < l.length
        · obtain ⟨b, off, rfl, hr⟩ := (unhide HR).at hlt
          obtain ⟨⟨key, val⟩, hx⟩ := get_some hlt
          have c0 := cell_keep_of (unhide HBel) (hr k _ hx).1
          have c1 := cell_keep_of (unhide HBel) (hr k _ hx).2
          simp only at c0 c1
          have HX := hide (take_snoc hx)
          have HCP := hide (fun W => copyKid_any key val W (by have := hm _ (List.mem_of_getElem? hx); simp only at this; omega))
          have hba := below_alloc wr (.cells #[.string key, .int .i64 val] 49)
          have HOA := hide ((unhide HO).below hba)
          have HBA := hide (below_then (unhide HBel) hba)
          clear hx hr HR hba
          go_wp2_with fail
          refine (unhide HCP _).mono ?_
          rintro e w3 ⟨rfl, hb⟩
          have ho3 := (unhide HOA).below hb
          unfold OwnE at ho3
          rw [hkl] at ho3
          have HO3 := hide ho3
          have HB3 := hide (below_then (unhide HBA) hb)
          clear hb HOA HBA HCP ho3 HO
          rw [hkl]
          have hBz := (unhide HB3).size
          go_wp2_with (at_builtin; refine app_gen (news := [.string key, .int .i64 val]) Try.underlying23 info49 rfl (by decide) rfl _ _ rfl rfl rfl (unhide HO3) hBz rfl ?_ ?_ ?_ ?_; (exact pair_one rfl); omega; omega; intro a' cap' w5 ho' hg' _; have HO5 := hide ho'; have HB5 := hide ((unhide HB3).grown hg' hBz (fun g hg => (World.ownsRow.lt (unhide HO3) g hg).1)); clear ho' hg')
          go_roundw
          case rel =>
            refine ⟨k + 1, by omega, by go_num, ?_, unhide HB5⟩
            have ho := unhide HO5
            rw [unhide HX]
            exact OwnE.snoc (sv := kv) (x := (key, val)) (by rw [hkl]; exact ho)
          case measure => simp [intOf]; omega
        · obtain rfl : k = l.length := by omega
          have ho := unhide HO
          rw [List.take_length] at ho
          have HO2 := hide ho
          rw [List.take_length]
          clear HO ho
          go_wp2
          go_roundw
          case rel => exact .inr ⟨rfl, unhide HO2, unhide HBel⟩
          case measure => simp [intOf]
    · obtain ⟨a0, cap0, rfl⟩ := hown.form
      have HO1 := hide hown
      have HBel := hide hbel
      clear hown hbel
      go_wp2
      go_ret
      exact ⟨a0, cap0, rfl, unhide HO1, unhide HBel⟩

set_option maxRecDepth 10000 in
set_option maxHeartbeats 2000000 in
theorem leafOf_any (h : Nat) (a : Option Addr) (cap : Nat) (l : List It) (w : World) (hc : w.cell? ⟨h, 0, none⟩ = some (.slice a l.length cap)) (hr : Row Value.string w a l) (hl : l.length ≤ 1100) (hm : ∀ x ∈ l, x.1.size ≤ 1000 ∧ x.2.size ≤ 1000) :
    Calls Try.prog 39 #[.slice (some ⟨h, 0, none⟩) 1 1] w fun e w' => ∃ a' cap', e = .returned (.agg #[.bool true, .slice a' l.length cap', .slice none 0 0]) ∧ OwnE Value.string 47 w.heap.size w' (.slice a' l.length cap') l ∧ Below w.heap.size w w' := by
  have hb0 := below_alloc w (.cells #[.bool false, .slice none 0 0, .slice none 0 0] 25)
  have HC := hide (copiesI_any h a cap l _ (cell_keep hc hb0) (hr.grow hb0) hl hm)
  have HP := hide (Nblk.new w false none none 0 0 0 0)
  have HB := hide hb0
  clear hc hr hb0 hm
  go_enter Try.func39, Try.ntmps39
  go_wp2_with fail
  refine (unhide HC).mono ?_
  rintro e w2 ⟨a', cap', rfl, ho, hb⟩
  have hp2 := (unhide HP).below hb
  have HO := hide ho
  have HB2 := hide (below_then (unhide HB) hb)
  obtain ⟨p, hp⟩ : ∃ y, y = w.heap.size := ⟨_, rfl⟩
  rw [← hp] at hp2 ⊢
  have hpw : w.heap.size ≤ p := Nat.le_of_eq hp.symm
  have hz : w.heap.size ≤ (w.alloc (.cells #[.bool false, .slice none 0 0, .slice none 0 0] 25)).heap.size := (unhide HB).size
  have c0 := hp2.cell0
  have c1 := hp2.cell1
  have c2 := hp2.cell2
  have f0 := hp2.free 0
  have f1 := hp2.free 1
  have f2 := hp2.free 2
  have HP2 := hide hp2
  clear hb ho hp2 hp HC HP HB
  go_wp2
  have hp2 := unhide HP2
  refine bodyPost_ret (v := .agg #[.bool true, .slice a' l.length cap', .slice none 0 0]) ?_ rfl ⟨a', cap', rfl, ?_, below_store (below_store (below_store (unhide HB2) p 0 _ hpw) p 1 _ hpw) p 2 _ hpw⟩
  · rw [results_cell1 rfl]
    go_simp
  · have h0 := (unhide HO).base hz
    exact ((h0.set hp2 (by decide) 0 _).set (hp2.set0 true) (by decide) 1 _).set ((hp2.set0 true).set1 a' l.length cap') (by decide) 2 _

set_option maxRecDepth 10000 in
set_option maxHeartbeats 2000000 in
theorem kidsOf_any (h : Nat) (a : Option Addr) (cap : Nat) (l : List Kd) (w : World) (hc : w.cell? ⟨h, 0, none⟩ = some (.slice a l.length cap)) (hr : Row kv w a l) (hl : l.length ≤ 1100) (hm : ∀ x ∈ l, x.1.size ≤ 1000) :
    Calls Try.prog 42 #[.slice (some ⟨h, 0, none⟩) 1 1] w fun e w' => ∃ a' cap', e = .returned (.agg #[.bool false, .slice none 0 0, .slice a' l.length cap']) ∧ OwnE kv 49 w.heap.size w' (.slice a' l.length cap') l ∧ Below w.heap.size w w' := by
  have hb0 := below_alloc w (.cells #[.bool false, .slice none 0 0, .slice none 0 0] 25)
  have HC := hide (copiesK_any h a cap l _ (cell_keep hc hb0) (hr.grow hb0) hl hm)
  have HP := hide (Nblk.new w false none none 0 0 0 0)
  have HB := hide hb0
  clear hc hr hb0 hm
  go_enter Try.func42, Try.ntmps42
  go_wp2_with fail
  refine (unhide HC).mono ?_
  rintro e w2 ⟨a', cap', rfl, ho, hb⟩
  have hp2 := (unhide HP).below hb
  have HO := hide ho
  have HB2 := hide (below_then (unhide HB) hb)
  obtain ⟨p, hp⟩ : ∃ y, y = w.heap.size := ⟨_, rfl⟩
  rw [← hp] at hp2 ⊢
  have hpw : w.heap.size ≤ p := Nat.le_of_eq hp.symm
  have hz : w.heap.size ≤ (w.alloc (.cells #[.bool false, .slice none 0 0, .slice none 0 0] 25)).heap.size := (unhide HB).size
  have c0 := hp2.cell0
  have c1 := hp2.cell1
  have c2 := hp2.cell2
  have f0 := hp2.free 0
  have f1 := hp2.free 1
  have f2 := hp2.free 2
  have HP2 := hide hp2
  clear hb ho hp2 hp HC HP HB
  go_wp2
  have hp2 := unhide HP2
  refine bodyPost_ret (v := .agg #[.bool false, .slice none 0 0, .slice a' l.length cap']) ?_ rfl ⟨a', cap', rfl, ?_, below_store (below_store (below_store (unhide HB2) p 0 _ hpw) p 1 _ hpw) p 2 _ hpw⟩
  · rw [results_cell1 rfl]
    go_simp
  · have h0 := (unhide HO).base hz
    exact ((h0.set hp2 (by decide) 0 _).set (hp2.set0 false) (by decide) 1 _).set ((hp2.set0 false).set1 none 0 0) (by decide) 2 _
end Go.Proofs.Ytepkifledonldaa
