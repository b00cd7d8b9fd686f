/- The document's disk: Crash. -/
import Derived.Test.YtmkmebogfcbphaaRefe
import Derived.Test.YtmkmebogfcbphaaCrash
namespace Go.Proofs.Ytmkmebogfcbphaa
open Go.ChangeShapes Go.WideShapes Go.ChangeAt Go.RowKit

variable {r : Nat} {m : Dk} {ov pv : Value}

def left0 (old : List ByteArray) : Dk := ⟨old, [], -1, false⟩

theorem refNew {w w1 w2 : World} {ov1 : Value} {old : List ByteArray} (hok : Ok (left0 old)) (hown : w1.ownsRow w.heap.size 9 1 ov1 old.length (strs old)) (hb : Below w.heap.size w w1)
    (he : w2 = w1.alloc (.cells #[ov1, .slice none 0 0, .int .i64 (-1), .bool false] 58)) : RefAt w2 w1.heap.size (left0 old) ov1 (.slice none 0 0) ∧ Below w.heap.size w w2 ∧ ∀ x ∈ rfOf w1.heap.size ov1 (.slice none 0 0), w.heap.size ≤ x := by
  subst he
  refine ⟨⟨?_, ownsRow_base (hown.alloc _) (Nat.zero_le _), World.ownsRow_nil _ _ _ _, hok⟩, hb.alloc hb.size _, fun x hx => ?_⟩
  · show (w1.heap.push _)[w1.heap.size]? = _
    rw [Array.getElem?_push, if_pos rfl]
    rfl
  · simp [rfOf, Value.ownBlock] at hx
    rcases hx with h | h
    · have := hb.size
      omega
    · exact (hown.lt x h).1

theorem take_more (op : List (Nat × ByteArray)) (fs : List Int) (k : Nat) (h : fs.length ≤ k) : (op.zip fs).take (k + 1) = (op.zip fs).take k := by
  rw [List.take_of_length_le (by rw [List.length_zip]; omega), List.take_of_length_le (by rw [List.length_zip]; omega)]

set_option maxHeartbeats 4000000 in
set_option maxRecDepth 20000 in
theorem rcrash_at (fs : List Int) (v : Value) (w : World) (h : RefAt w r m ov pv) (hv : IsInts w v fs) (hpos : 0 < m.old.length) (hc : m.op.length ≤ 1000000) :
    Calls Try.prog 31 #[.pointer (some ⟨r, 0, none⟩), v] w fun e w' => ∃ r' fp', e = .returned (.pointer (some ⟨r', 0, none⟩)) ∧ IsRef w' r' (crashM m fs) fp' ∧ Below w.heap.size w w' ∧ ∀ x ∈ fp', w.heap.size ≤ x := by
  obtain ⟨af, capf, rfl, hfs⟩ := hv
  obtain ⟨ap, capp, rfl⟩ := ownsRow_form h.op
  have c0 := h.cell0
  have hmany := h.ok.many
  have hok0 := ok_crash h.ok []
  have H := hide h
  have HFS := hide hfs
  have HOK0 : Hid (Ok (left0 m.old)) := by
    have e : crashM m [] = left0 m.old := by unfold crashM left0; rw [List.zip_nil_right]; rfl
    rw [e] at hok0
    exact hok0
  have C0 : ∀ o, (w.alloc o).cell? ⟨r, 0, none⟩ = some ov := fun o => (Below.cell ((Below.refl w.heap.size w).alloc (Nat.le_refl _) o) h.rlt).trans c0
  clear h hfs hok0 c0
  go_enter Try.func31, Try.ntmps31
  go_wp2_with (first
    | (at_builtin; refine app_src (v := .slice (some ⟨w.heap.size, 0, none⟩) 0 0) (B := w.heap.size) Try.underlying40 info9 rfl (by decide) rfl _ _ rfl rfl rfl (ownsRow_empty w 9 1) ((unhide H).old.alloc _) (strs_one m.old) (by omega) (by omega) (by simp) ?_; intro v' w1 hown hg hloc; have hown1 : w1.ownsRow w.heap.size 9 1 v' m.old.length (strs m.old) := by rw [Nat.zero_add, List.nil_append] at hown; exact hown
       obtain ⟨gx, capx, rfl, _, _⟩ := row_some (ownsRow_base hown1 (Nat.zero_le _)) hpos
       have HOWN := hide hown1
       have HB1 : Hid (Below w.heap.size w w1) := ((Below.refl _ _).alloc (Nat.le_refl _) _).grown hg (by simp) (fun k hk => by simp [Value.ownBlock] at hk; omega)
       clear hown hg hloc hown1)
    | go_in)
  obtain ⟨w2, hw2⟩ : ∃ x, x = w1.alloc (.cells #[.slice (some ⟨gx, 0, none⟩) m.old.length capx, .slice none 0 0, .int .i64 (-1), .bool false] 58) := ⟨_, rfl⟩
  obtain ⟨hR2, hB2, hX2⟩ := refNew (unhide HOK0) (unhide HOWN) (unhide HB1) hw2
  rw [← hw2]
  obtain ⟨rx, hrx⟩ : ∃ x, x = w1.heap.size := ⟨_, rfl⟩
  rw [← hrx] at hR2 hX2 ⊢
  have HR2 := hide hR2
  have HB2 := hide hB2
  have HX2 := hide hX2
  clear hw2 hrx hR2 hB2 hX2 HOWN HB1 C0
  go_loopw [6] (fun j wr => ∃ k : Nat, k ≤ m.op.length ∧ j = .int .i64 (k : Int) ∧ RefAt wr rx (left0 (crashL m.old ((m.op.zip fs).take k))) (.slice (some ⟨gx, 0, none⟩) m.old.length capx) (.slice none 0 0) ∧ Below w.heap.size w wr) (fun j _ => m.op.length - (intOf j).toNat)
  case atStart => exact ⟨0, Nat.zero_le _, rfl, unhide HR2, unhide HB2⟩
  case round =>
    clear HR2 HB2
    obtain ⟨k, hk, rfl, hA, hb⟩ := hrel
    have d0 := hA.cell0
    have HA := hide hA
    have HB := hide hb
    have hk6 : k ≤ 1000000 := by omega
    have c1 := (hb.cell (p := ⟨r, 1, none⟩) (unhide H).rlt).trans (unhide H).cell1
    clear hA hb
    by_cases hlt : k < m.op.length
    · have hlt' : (k : Int) < (m.op.length : Int) := by omega
      have HOP : Hid (wr.ownsRow 0 82 2 (.slice ap m.op.length capp) m.op.length (opCells m.op)) := ownsRow_same (unhide H).op (fun g hg => (unhide HB).block g ((unhide H).op.lt g hg).2)
      obtain ⟨gp, capq, ep, _, _⟩ := row_some (unhide HOP) (by omega)
      cases ep
      have q1 := row_cell (unhide HOP) (k * 2) _ (opCells_at m.op k hlt).1
      have q2 := row_cell (unhide HOP) (k * 2 + 1) _ (opCells_at m.op k hlt).2
      obtain ⟨hx, hs⟩ := (unhide H).ok.op _ (List.getElem_mem hlt)
      have hlen := crashL_length m.old ((m.op.zip fs).take k)
      have hszo := crashL_size (unhide H).ok fs k m.op[k].1 hx
      have hst : k < fs.length → crashL m.old ((m.op.zip fs).take (k + 1)) = (crashL m.old ((m.op.zip fs).take k)).set m.op[k].1 (tear ((crashL m.old ((m.op.zip fs).take k)).getD m.op[k].1 ByteArray.empty) m.op[k].2 (fs.getD k 0)) := fun h2 => by
        have ef : fs.getD k 0 = fs[k] := by rw [List.getD_eq_getElem?_getD, List.getElem?_eq_getElem h2]; rfl
        rw [ef]
        exact crash_take _ _ _ _ hlt h2
      have hno : fs.length ≤ k → crashL m.old ((m.op.zip fs).take (k + 1)) = crashL m.old ((m.op.zip fs).take k) := fun h2 => by rw [take_more _ _ _ h2]
      have HST := hide hst
      have HNO := hide hno
      generalize crashL m.old ((m.op.zip fs).take k) = o0 at *
      generalize m.op[k].1 = x at *
      generalize m.op[k].2 = s at *
      have hq3 : wr.cell? ⟨gx, x, none⟩ = some (.string (o0.getD x ByteArray.empty)) := by
        have h1 := (unhide HA).old
        rw [show (left0 o0).old = o0 from rfl, hlen] at h1
        exact row_cell h1 x _ (strs_at o0 x (by omega))
      have hf3 : wr.frozen? ⟨gx, x, none⟩ = false := by
        obtain ⟨cur, hcur⟩ := ownsRow_kind (unhide HA).old rfl
        simp [World.frozen?, hcur]
      have hxg : gx ≠ wr.heap.size := by
        have := ((unhide HA).old.lt gx rfl).2
        omega
      have hrg : rx ≠ gx := fun e => (unhide HA).no (by rw [e]; rfl)
      have hrxl : rx ≠ wr.heap.size := by have := (unhide HA).rlt; omega
      have hx' : (x : Int) < (m.old.length : Int) := by omega
      clear hst hno
      by_cases hkf : k < fs.length
      · have hkf' : (k : Int) < (fs.length : Int) := by omega
        rcases unhide HFS with hfs | ⟨b, off, rfl, hbl, hfc⟩
        · rw [hfs] at hkf; simp at hkf
        have g3 : wr.cell? ⟨b, off + k, none⟩ = _ := ((unhide HB).cell (p := ⟨b, off + k, none⟩) hbl).trans (hfc k hkf)
        have hs1 := unhide HST hkf
        have HS1 := hide hs1
        clear hs1 hfc
        generalize fs.getD k 0 = f at *
        by_cases hf1 : f < 1
        · have hf2 : f ≠ 1 := by omega
          have hf3' : ¬ 1 < f := by omega
          go_wp2
          go_roundw
          case rel =>
            have he : crashL m.old ((m.op.zip fs).take (k + 1)) = o0 := by
              rw [unhide HS1]
              unfold tear
              rw [if_pos hf1, set_same]
            refine ⟨k + 1, by omega, by go_num, ?_, (unhide HB).alloc (unhide HB).size _⟩
            rw [he]
            exact (unhide HA).same (fun y hy => Below.heap_alloc _ _ _ ((unhide HA).lt y hy))
          case measure => simp [intOf]; omega
        · by_cases hf2 : f = 1
          · subst hf2
            go_wp2_with fail
            have hRa : RefAt (wr.alloc (.cells #[.int .i64 (x : Int), .string s] 82)) rx (left0 o0) (.slice (some ⟨gx, 0, none⟩) m.old.length capx) (.slice none 0 0) := (unhide HA).same (fun y hy => Below.heap_alloc _ _ _ ((unhide HA).lt y hy))
            have hBa : Below w.heap.size w (wr.alloc (.cells #[.int .i64 (x : Int), .string s] 82)) := (unhide HB).alloc (unhide HB).size _
            have e1 : (wr.alloc (.cells #[.int .i64 (x : Int), .string s] 82)).cell? ⟨wr.heap.size, 0, none⟩ = some (.int .i64 (x : Int)) := by simp
            have e2 : (wr.alloc (.cells #[.int .i64 (x : Int), .string s] 82)).cell? ⟨wr.heap.size, 1, none⟩ = some (.string s) := by simp
            have e3 : (wr.alloc (.cells #[.int .i64 (x : Int), .string s] 82)).cell? ⟨gx, x, none⟩ = some (.string (o0.getD x ByteArray.empty)) := (Below.cell ((Below.refl wr.heap.size wr).alloc (Nat.le_refl _) _) (World.block_lt_of_cell? wr _ hq3)).trans hq3
            have e0 := hRa.cell0
            have f0 : (wr.alloc (.cells #[.int .i64 (x : Int), .string s] 82)).frozen? ⟨gx, x, none⟩ = false := by
              obtain ⟨cur, hcur⟩ := ownsRow_kind hRa.old rfl
              simp [World.frozen?, hcur]
            obtain ⟨p, hp⟩ : ∃ y, y = wr.heap.size := ⟨_, rfl⟩
            rw [← hp] at e1 e2 hxg hrxl ⊢
            clear hp hq3 hf3
            generalize wr.alloc (.cells #[.int .i64 (x : Int), .string s] 82) = wa at *
            have HRA := hide hRa
            have HBA := hide hBa
            have hgp : gx ≠ p := hxg
            clear hRa hBa d0 c1 q1 q2 g3
            go_region
            go_wp2_with fail
            go_roundw
            case rel =>
              have hst := (unhide HRA).stored (x := x) (s := s) (by show m.old.length = o0.length; rw [hlen]) (by show x < o0.length; omega) hs
              refine ⟨k + 1, by omega, by go_num, ?_, ((unhide HBA).setCell (p := ⟨gx, x, none⟩) (unhide HX2 gx (by simp [rfOf, Value.ownBlock])) _).drew⟩
              have he : crashL m.old ((m.op.zip fs).take (k + 1)) = o0.set x (s) := by
                rw [unhide HS1]
                rfl
              rw [he]
              exact hst.same (fun y _ => rfl)
            case measure => simp [intOf]; omega
          · have hf4 : 1 < f := by omega
            obtain ⟨kk, hkk⟩ : ∃ kk, kk = f.toNat % 1024 := ⟨_, rfl⟩
            have hkk2 : kk < 1024 := by rw [hkk]; exact Nat.mod_lt _ (by omega)
            have hrem : Int.tmod f 1024 = (kk : Int) := by rw [Int.tmod_eq_emod_of_nonneg (by omega), hkk]; omega
            have hs' : (s.size : Int) = 1024 := by omega
            have ho' : ((o0.getD x ByteArray.empty).size : Int) = 1024 := by omega
            have HKK := hide hkk
            clear hkk
            generalize hold : o0.getD x ByteArray.empty = so at *
            have HOLD := hide hold
            clear hold
            go_wp2_with fail
            have hRa : RefAt (wr.alloc (.cells #[.int .i64 (x : Int), .string s] 82)) rx (left0 o0) (.slice (some ⟨gx, 0, none⟩) m.old.length capx) (.slice none 0 0) := (unhide HA).same (fun y hy => Below.heap_alloc _ _ _ ((unhide HA).lt y hy))
            have hBa : Below w.heap.size w (wr.alloc (.cells #[.int .i64 (x : Int), .string s] 82)) := (unhide HB).alloc (unhide HB).size _
            have e1 : (wr.alloc (.cells #[.int .i64 (x : Int), .string s] 82)).cell? ⟨wr.heap.size, 0, none⟩ = some (.int .i64 (x : Int)) := by simp
            have e2 : (wr.alloc (.cells #[.int .i64 (x : Int), .string s] 82)).cell? ⟨wr.heap.size, 1, none⟩ = some (.string s) := by simp
            have e3 : (wr.alloc (.cells #[.int .i64 (x : Int), .string s] 82)).cell? ⟨gx, x, none⟩ = some (.string so) := (Below.cell ((Below.refl wr.heap.size wr).alloc (Nat.le_refl _) _) (World.block_lt_of_cell? wr _ hq3)).trans hq3
            have e0 := hRa.cell0
            have f0 : (wr.alloc (.cells #[.int .i64 (x : Int), .string s] 82)).frozen? ⟨gx, x, none⟩ = false := by
              obtain ⟨cur, hcur⟩ := ownsRow_kind hRa.old rfl
              simp [World.frozen?, hcur]
            obtain ⟨p, hp⟩ : ∃ y, y = wr.heap.size := ⟨_, rfl⟩
            rw [← hp] at e1 e2 hxg hrxl ⊢
            clear hp hq3 hf3
            generalize wr.alloc (.cells #[.int .i64 (x : Int), .string s] 82) = wa at *
            have HRA := hide hRa
            have HBA := hide hBa
            have hgp : gx ≠ p := hxg
            clear hRa hBa d0 c1 q1 q2 g3
            go_region
            go_wp2_with fail
            go_roundw
            case rel =>
              have hst := (unhide HRA).stored (x := x) (s := s.extract 0 kk ++ so.extract kk 1024) (by show m.old.length = o0.length; rw [hlen]) (by show x < o0.length; omega) (by rw [ByteArray.size_append, ByteArray.size_extract, ByteArray.size_extract]; omega)
              refine ⟨k + 1, by omega, by go_num, ?_, ((unhide HBA).setCell (p := ⟨gx, x, none⟩) (unhide HX2 gx (by simp [rfOf, Value.ownBlock])) _).drew⟩
              have he : crashL m.old ((m.op.zip fs).take (k + 1)) = o0.set x (s.extract 0 kk ++ so.extract kk 1024) := by
                rw [unhide HS1]
                unfold tear tearK
                rw [if_neg (by omega), if_neg hf2, hszo, ← unhide HKK]
              rw [he]
              exact hst.same (fun y _ => rfl)
            case measure => simp [intOf]; omega
      · have hkf' : ¬ (k : Int) < (fs.length : Int) := by omega
        go_wp2
        go_roundw
        case rel =>
          refine ⟨k + 1, by omega, by go_num, ?_, (unhide HB).alloc (unhide HB).size _⟩
          rw [unhide HNO (by omega)]
          exact (unhide HA).same (fun y hy => Below.heap_alloc _ _ _ ((unhide HA).lt y hy))
        case measure => simp [intOf]; omega
    · have hlt' : ¬ (k : Int) < (m.op.length : Int) := by omega
      have hzl : (m.op.zip fs).take k = m.op.zip fs := List.take_of_length_le (by rw [List.length_zip]; omega)
      rw [hzl] at HA
      clear hzl
      go_wp2
      go_ret
      refine ⟨rx, rfl, _, ⟨_, _, unhide HA, rfl⟩, unhide HB, ?_⟩
      exact unhide HX2

theorem rcrash_any (fs : List Int) (v : Value) (fp : List Nat) (w : World) (h : IsRef w r m fp) (hv : IsInts w v fs) (hpos : 0 < m.old.length) (hc : m.op.length ≤ 1000000) :
    Calls Try.prog 31 #[.pointer (some ⟨r, 0, none⟩), v] w fun e w' => ∃ r' fp', e = .returned (.pointer (some ⟨r', 0, none⟩)) ∧ IsRef w' r' (crashM m fs) fp' ∧ Below w.heap.size w w' ∧ ∀ x ∈ fp', w.heap.size ≤ x := by
  obtain ⟨ov, pv, h, rfl⟩ := h
  exact rcrash_at fs v w h hv hpos hc
end Go.Proofs.Ytmkmebogfcbphaa
