/- The program's Check. -/
import Derived.Test.YtmpgaecnibakdaaDoorAt
namespace Go.Proofs.YtmpgaecnibakdaaDoor
open Go.ChangeShapes Go.WideShapes Go.ChangeAt Go.RowKit
attribute [local go_sem] Oper.semAt_some

theorem drop_get {α : Type} {l : List α} {k : Nat} {x : α} (h : l[k]? = some x) : l.drop k = x :: l.drop (k + 1) := by
  obtain ⟨hk, rfl⟩ := List.getElem?_eq_some_iff.1 h
  exact List.drop_eq_getElem_cons hk
/-- up to here all is well: the rest decides -/
def Upto (l : List Pc) (size least : Int) (i : Nat) : Prop := 0 ≤ least ∧ least ≤ 72057594037927937 ∧ okL size 0 l = okL size least (l.drop i)
theorem Upto.bad {l : List Pc} {size least : Int} {i : Nat} {x : Pc} (h : Upto l size least i) (hx : l[i]? = some x) (hb : okP least size x = false) : chkR l size = 21 := by
  unfold chkR
  rw [if_neg]
  rintro ⟨_, _, ho⟩
  rw [h.2.2, drop_get hx] at ho
  unfold okL at ho
  rw [hb] at ho
  cases ho
theorem Upto.next {l : List Pc} {size least : Int} {i : Nat} {x : Pc} (h : Upto l size least i) (hx : l[i]? = some x) (hb : okP least size x = true) (h0 : 0 ≤ x.1) (h1 : x.1 ≤ 72057594037927936) : Upto l size (x.1 + 1) (i + 1) := by
  refine ⟨by omega, by omega, ?_⟩
  rw [h.2.2, drop_get hx]
  show (okP least size x && okL size (x.1 + 1) (l.drop (i + 1))) = _
  rw [hb, Bool.true_and]
theorem Upto.done {l : List Pc} {size least : Int} (h0 : 0 ≤ size) (h1 : size ≤ 4611686018427387904) (h : Upto l size least l.length) : chkR l size = 0 := by
  unfold chkR
  rw [if_pos]
  refine ⟨h0, h1, ?_⟩
  rw [h.2.2, List.drop_length]
  rfl
theorem okP_eq (least size ix : Int) (da : List UInt8) : okP least size (ix, da) = (decide (least ≤ ix) && decide (ix * 64 < size) && decide (da.length = 64) && (da.drop (insI ix size)).all (· == 0)) := rfl
theorem trim_all (d : List UInt8) : d.all (· == 0) = true ↔ Lib.trimB d 0 = [] := by
  rw [trim_nil, List.all_eq_true]
  simp

set_option maxHeartbeats 4000000 in
set_option maxRecDepth 10000 in
theorem chk_any (a : Option Addr) (cap : Nat) (l : List Pc) (size : Int) (w : World) (hr : Ps w a l) (hl : l.length ≤ 100000) (hd : ∀ p ∈ l, p.2.length ≤ 1000000) :
    Calls Tryd.prog 17 #[.slice a l.length cap, .int .i64 size] w fun e w' => e = .returned (.int .i64 (chkR l size)) ∧ Below w.heap.size w w' := by
  by_cases hs0 : size < 0
  · have hc : chkR l size = 21 := if_neg (fun h => by omega)
    rw [hc]
    clear hr hc
    go_enter Tryd.func17, Tryd.ntmps17
    go_wp2
    go_ret
    exact ⟨rfl, Below.refl _ _⟩
  by_cases hs1 : 4611686018427387904 < size
  · have hc : chkR l size = 21 := if_neg (fun h => by omega)
    rw [hc]
    clear hr hc
    go_enter Tryd.func17, Tryd.ntmps17
    go_wp2
    go_ret
    exact ⟨rfl, Below.refl _ _⟩
  have HR := hide hr
  have HP := hide (fun W => places_any size W (by omega) (by omega))
  clear hr
  go_enter Tryd.func17, Tryd.ntmps17
  go_wp2
  go_loopw [5, 16] (fun s t wr => ∃ (i : Nat) (least : Int), i ≤ l.length ∧ t = .int .i64 i ∧ s = .int .i64 least ∧ Upto l size least i ∧ Below w.heap.size w wr) (fun _ t _ => l.length - (intOf t).toNat)
  case atStart => exact ⟨0, 0, Nat.zero_le _, rfl, rfl, ⟨Int.le_refl _, by omega, rfl⟩, Below.refl _ _⟩
  case round =>
    obtain ⟨i, least, hi, rfl, rfl, hu, hb⟩ := hrel
    have HB := hide hb
    have hu0 := hu.1
    have hu1 := hu.2.1
    have HU := hide hu
    clear hu
    by_cases hlt : i < l.length
    · obtain ⟨⟨ix, da⟩, hx⟩ := get_some hlt
      obtain ⟨b, off, rfl, c0, c1, c2⟩ := ((unhide HR).below hb).get hx
      have hlt' : (i : Int) < (l.length : Int) := by omega
      have hdl : da.length ≤ 1000000 := hd _ (List.mem_of_getElem? hx)
      have hzs : (tx da).size ≤ 1000000 := by rw [tx_size]; exact hdl
      have HX := hide hx
      have b1 := b_alloc wr (.cells #[.int .i64 ix, .string (tx da)] 58)
      have n1 := heap_alloc_new wr (.cells #[.int .i64 ix, .string (tx da)] 58)
      have HB1 := hide (below_then hb b1)
      have d0 : (wr.alloc (.cells #[.int .i64 ix, .string (tx da)] 58)).cell? ⟨wr.heap.size, 0, none⟩ = some (.int .i64 ix) := (cell_of_row _ _ 0 _ _ _ n1).trans rfl
      have d1 : (wr.alloc (.cells #[.int .i64 ix, .string (tx da)] 58)).cell? ⟨wr.heap.size, 1, none⟩ = some (.string (tx da)) := (cell_of_row _ _ 1 _ _ _ n1).trans rfl
      clear hx hb b1 n1
      generalize hW : wr.alloc (.cells #[.int .i64 ix, .string (tx da)] 58) = w2 at *
      by_cases hA : ix < least
      · have HE := hide ((unhide HU).bad (unhide HX) (by rw [okP_eq, decide_eq_false (by omega)]; rfl))
        go_wp2
        go_quiet (first | (go_at_call 31; exact Calls.quiet_of_same (unhide HP _)))
        go_wp2
        go_ret
        exact ⟨by rw [unhide HE]; rfl, below_then (unhide HB1) (b_drewN _ _)⟩
      have hA' : decide (ix < least) = false := decide_eq_false hA
      by_cases hB : (size + 63) / 64 ≤ ix
      · have HE := hide ((unhide HU).bad (unhide HX) (by rw [okP_eq, decide_eq_false (p := ix * 64 < size) (by omega), Bool.and_false]; rfl))
        go_wp2
        go_quiet (first | (go_at_call 31; exact Calls.quiet_of_same (unhide HP _)))
        go_wp2
        go_ret
        exact ⟨by rw [unhide HE]; rfl, below_then (unhide HB1) (b_drewN _ _)⟩
      have hB' : decide ((size + 63) / 64 ≤ ix) = false := decide_eq_false hB
      by_cases hC : da.length = 64
      case neg =>
        have HE := hide ((unhide HU).bad (unhide HX) (by rw [okP_eq, decide_eq_false (p := da.length = 64) hC, Bool.and_false]; rfl))
        have hC' : ¬ ((tx da).size : Int) = 64 := by rw [tx_size]; omega
        have hC2 : (((tx da).size : Int) == 64) = false := beq_eq_false_iff_ne.2 hC'
        go_wp2
        go_quiet (first | (go_at_call 31; exact Calls.quiet_of_same (unhide HP _)))
        go_wp2
        go_ret
        exact ⟨by rw [unhide HE]; rfl, below_then (unhide HB1) (b_drewN _ _)⟩
      have hC' : ((tx da).size : Int) = 64 := by rw [tx_size]; omega
      have hix0 : 0 ≤ ix := by omega
      have hix1 : ix ≤ 72057594037927936 := by omega
      have hokp : Hid (okP least size (ix, da) = (da.drop (insI ix size)).all (· == 0)) := by
        show _ = _
        rw [okP_eq, decide_eq_true (by omega : least ≤ ix), decide_eq_true (by omega : ix * 64 < size), decide_eq_true hC]
        rfl
      have hk64 := ins_le64 ix size
      have T1 := hide (fun W => inside_any ix (tx da) size W hix0 hix1 (by omega) (by omega))
      have T2 := hide (fun W => trim_any (tx (da.drop (insI ix size))) W (by rw [tx_size, List.length_drop]; omega))
      have hext := ext_drop da (insI ix size)
      rw [← hext, hext, bs_tx] at T2
      rw [← hext] at T2
      have hall := trim_all (da.drop (insI ix size))
      obtain ⟨k, hk⟩ : ∃ k, k = insI ix size := ⟨_, rfl⟩
      rw [← hk] at T1 T2 hk64 hall hokp
      have hk0 : (0 : Int) ≤ (k : Int) := by omega
      have hk1 : (k : Int) ≤ ((tx da).size : Int) := by omega
      have hk2 : (k : Int) ≤ 64 := by omega
      obtain ⟨R, hR⟩ : ∃ R, R = Lib.trimB (da.drop k) 0 := ⟨_, rfl⟩
      rw [← hR] at T2 hall
      have hRR := hide hR
      have HALL := hide hall
      clear hext hk hR hall
      go_wp2
      go_quiet (first | (go_at_call 31; exact Calls.quiet_of_same (unhide HP _)))
      have HB2 := hide (below_then (unhide HB1) (b_drewN w2 nq))
      have e0 := cell_keep d0 (b_drewN w2 nq)
      have e1 := cell_keep d1 (b_drewN w2 nq)
      generalize w2.drewN nq = w3 at *
      clear d0 d1 hW
      obtain ⟨q, hq⟩ : ∃ q, q = wr.heap.size := ⟨_, rfl⟩
      rw [← hq] at e0 e1 ⊢
      clear hq
      have H0 : Hid (Below w.heap.size w w3.drew ∧ w3.drew.cell? ⟨q, 0, none⟩ = some (.int .i64 ix) ∧ w3.drew.cell? ⟨q, 1, none⟩ = some (.string (tx da))) := ⟨(unhide HB2).drew, e0, e1⟩
      have KP : Hid (∀ wa wb, (Below w.heap.size w wa ∧ wa.cell? ⟨q, 0, none⟩ = some (.int .i64 ix) ∧ wa.cell? ⟨q, 1, none⟩ = some (.string (tx da))) → Below wa.heap.size wa wb → (Below w.heap.size w wb ∧ wb.cell? ⟨q, 0, none⟩ = some (.int .i64 ix) ∧ wb.cell? ⟨q, 1, none⟩ = some (.string (tx da)))) := fun wa wb h hb => ⟨below_then h.1 hb, cell_keep h.2.1 hb, cell_keep h.2.2 hb⟩
      clear e0 e1
      by_cases hz : R = []
      · have hv := void_of (s := tx R) (by rw [bs_tx]; exact hz)
        have HN := hide ((unhide HU).next (unhide HX) ((unhide hokp).trans ((unhide HALL).2 hz)) hix0 hix1)
        clear hz
        go_wp2
        go_region_held3 (fun w' => Below w.heap.size w w' ∧ w'.cell? ⟨q, 0, none⟩ = some (.int .i64 ix) ∧ w'.cell? ⟨q, 1, none⟩ = some (.string (tx da)))
          (first | (with_reducible assumption) | (with_reducible exact unhide H0))
          (first
            | (go_at_call 35; with_reducible refine (unhide T1 _).mono ?_; rintro e w6 ⟨rfl, hb⟩; have H1 := unhide KP _ _ (unhide H0) hb; clear hb)
            | (go_at_call 34; with_reducible refine (unhide T2 _).mono ?_; rintro e w7 ⟨rfl, hb⟩; have H2 := unhide KP _ _ H1 (b_or hb); clear hb))
        have f0 := H2.2.1
        have HBB := hide H2.1
        have hw : ix + 1 ≤ 9223372036854775807 := by omega
        clear H2 H1 H0 KP
        go_wp2
        go_roundw
        case rel => exact ⟨i + 1, ix + 1, by omega, by go_num, rfl, unhide HN, unhide HBB⟩
        case measure => simp [intOf]; omega
      · have hv := full_of (s := tx R) (by rw [bs_tx]; exact hz)
        have HE := hide ((unhide HU).bad (unhide HX) (by rw [unhide hokp]; exact Bool.eq_false_iff.2 (fun h => hz ((unhide HALL).1 h))))
        clear hz
        go_wp2
        go_region_held3 (fun w' => Below w.heap.size w w' ∧ w'.cell? ⟨q, 0, none⟩ = some (.int .i64 ix) ∧ w'.cell? ⟨q, 1, none⟩ = some (.string (tx da)))
          (first | (with_reducible assumption) | (with_reducible exact unhide H0))
          (first
            | (go_at_call 35; with_reducible refine (unhide T1 _).mono ?_; rintro e w6 ⟨rfl, hb⟩; have H1 := unhide KP _ _ (unhide H0) hb; clear hb)
            | (go_at_call 34; with_reducible refine (unhide T2 _).mono ?_; rintro e w7 ⟨rfl, hb⟩; have H2 := unhide KP _ _ H1 (b_or hb); clear hb))
        have HBB := hide H2.1
        clear H2 H1 H0 KP
        go_wp2
        go_ret
        exact ⟨by rw [unhide HE]; rfl, unhide HBB⟩
    · have hlt' : ¬ (i : Int) < (l.length : Int) := by omega
      obtain rfl : i = l.length := by omega
      have HE := hide ((unhide HU).done (by omega) (by omega))
      clear hb
      go_wp2
      go_ret
      exact ⟨by rw [unhide HE]; rfl, unhide HB⟩
end Go.Proofs.YtmpgaecnibakdaaDoor
