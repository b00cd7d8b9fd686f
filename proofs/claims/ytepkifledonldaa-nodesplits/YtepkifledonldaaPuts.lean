/- What the writer's calls answer. -/
import Derived.Test.YtepkifledonldaaWr
import Derived.Deep.RegionHeld3
namespace Go.Proofs.Ytepkifledonldaa
open Go.ChangeShapes Go.WideShapes Go.ChangeAt Go.RowKit

/-- how many bytes a node has, with so many entries of so many bytes -/
def sz (c k : Nat) : Nat := 1 + (Pk.shL c).length + k

theorem Wr.app {B r c : Nat} {w w2 : World} {v v' : Value} {l : List Nat} {s : ByteArray} (h : w.heap[r]? = some (.cells #[.int .i64 (c : Int), v] 71 (0, 0))) (ho : Own B w v l)
    (h2 : w2.ownsRow B 5 1 v' (l.length + s.size) (cells l ++ Lib.strCells s)) (hg : (w.setCell ⟨r, 0, none⟩ (.int .i64 ((c : Int) + 1))).grownBy w2 v.ownBlock) :
    ∃ a' cap', v' = .slice a' (l.length + s.size) cap' ∧ w2.cell? ⟨r, 0, none⟩ = some (.int .i64 ((c : Int) + 1)) ∧ w2.cell? ⟨r, 1, none⟩ = some v ∧ w2.frozen? ⟨r, 1, none⟩ = false ∧ (w2.setCell ⟨r, 1, none⟩ v').heap[r]? = some (.cells #[.int .i64 ((c : Int) + 1), v'] 71 (0, 0)) := by
  have e1 : (w.setCell ⟨r, 0, none⟩ (.int .i64 ((c : Int) + 1))).heap[r]? = some (.cells #[.int .i64 ((c : Int) + 1), v] 71 (0, 0)) := two_set0 h _
  have e2 := (hg.block r (by simpa [World.setCell] using lt_of_block h) (ho.notr h).symm).trans e1
  have : ∃ a' cap', v' = .slice a' (l.length + s.size) cap' := by
    rcases h2.2 with ⟨rfl, hn⟩ | ⟨g, cap, cur, e, _⟩
    · exact ⟨none, 0, by rw [hn]⟩
    · exact ⟨_, _, e⟩
  obtain ⟨a', cap', e⟩ := this
  exact ⟨a', cap', e, two_cell0 e2, two_cell1 e2, two_free e2 1, two_set1 e2 _⟩

theorem add_run' (A B : ByteArray) (h : A.size + B.size ≤ 1000000) : ∀ w : World, (Op.stringOp .add A B).run Try.prog w = .ok (.string (A ++ B)) w := fun w => by
  simp [Op.stringOp]
  omega

set_option maxRecDepth 10000 in
set_option maxHeartbeats 2000000 in
theorem put_any (B r c : Nat) (l : List Nat) (s : ByteArray) (w : World) (h : Wr B w r c l) (hc : c ≤ 1000000) (hl : l.length + s.size ≤ 1000000) :
    Calls Try.prog 59 #[.pointer (some ⟨r, 0, none⟩), .string s] w fun e w' => e = .returned (.int .i64 (sz (c + 1) (l.length + s.size) : Nat)) ∧ Wr B w' r (c + 1) (l ++ bn s) ∧ Put B r w w' := by
  obtain ⟨hB, v, hb, ho⟩ := h
  have c0 := two_cell0 hb
  have c1 := two_cell1 hb
  have f0 := two_free hb 0
  have f1 := two_free hb 1
  have hlt := lt_of_block hb
  obtain ⟨a, cap, rfl⟩ := ho.shape
  have HB := hide hb
  have HO := hide ho
  have HO1 := hide (ho.set hb (.int .i64 ((c : Int) + 1)))
  obtain ⟨i0, hi, hz0, hz1, hz2⟩ := info_parts info5
  have HQ := hide (And.intro hi (And.intro hz0 (And.intro hz1 hz2)))
  clear hb ho hi hz0 hz1 hz2
  go_enter Try.func59, Try.ntmps59
  go_wp2_with (at_builtin; refine Lib.wpList_append_own_string _ rfl (.tmp 16) (.tmp 17) 69 9 rfl B 5 i0 Try.underlying69 Try.underlying9 (unhide HQ).1 (unhide HQ).2.1 (unhide HQ).2.2.1 (unhide HQ).2.2.2 _ l.length (cells l) rfl (unhide HO1) s rfl (by unfold maxLen; omega) (by omega) (by simp; omega) ?_; intro v' w2 h2 hg _; obtain ⟨a', cap', rfl, x0, x1, xf, xh⟩ := Wr.app (unhide HB) (unhide HO) h2 hg; have HX := hide xh; have HW := hide (Wr.put hB (unhide HB) (unhide HO) h2 hg); clear h2 hg xh)
  have y0 := two_cell0 (unhide HX)
  have y1 := two_cell1 (unhide HX)
  clear HX x0 x1 xf c0 c1 f0 f1 hlt HB HO HO1 HQ
  generalize w2.setCell ⟨r, 1, none⟩ (.slice a' (l.length + s.size) cap') = w3 at *
  have hw : IntKind.u64.wrap ((c : Int) + 1) = (c : Int) + 1 := by rw [IntKind.wrap_u64]; omega
  have HS := hide (fun W => short_any ((c : Int) + 1) W (by omega))
  have hsl := Pk.shL_le (c + 1)
  have en : ((c : Int) + 1).toNat = c + 1 := by omega
  rw [en] at HS
  have hss := strOf_size (Pk.shL (c + 1))
  have HE : Hid ((sz (c + 1) (l.length + s.size) : Int) = 1 + ((strOf (Pk.shL (c + 1))).size : Int) + ((l.length : Int) + (s.size : Int))) := by
    show _ = _
    unfold sz
    rw [hss]
    push_cast
    omega
  have hs10 : (strOf (Pk.shL (c + 1))).size ≤ 10 := by omega
  clear hss hsl en
  generalize strOf (Pk.shL (c + 1)) = T at *
  have H0 : Hid (Below w3.heap.size w3 w3.drew ∧ w3.drew.cell? ⟨r, 0, none⟩ = some (.int .i64 ((c : Int) + 1)) ∧ w3.drew.cell? ⟨r, 1, none⟩ = some (.slice a' (l.length + s.size) cap')) := ⟨below_drew _, y0, y1⟩
  clear y0 y1
  go_region_held3 (fun w' => Below w3.heap.size w3 w' ∧ w'.cell? ⟨r, 0, none⟩ = some (.int .i64 ((c : Int) + 1)) ∧ w'.cell? ⟨r, 1, none⟩ = some (.slice a' (l.length + s.size) cap'))
    (first | assumption | exact unhide H0)
    (first | (go_at_call 63; refine (unhide HS _).mono ?_; rintro e w4 ⟨rfl, hb⟩; have H1 : Below w3.heap.size w3 w4 ∧ w4.cell? ⟨r, 0, none⟩ = some (.int .i64 ((c : Int) + 1)) ∧ w4.cell? ⟨r, 1, none⟩ = some (.slice a' (l.length + s.size) cap') := ⟨below_then (unhide H0).1 hb, cell_keep (unhide H0).2.1 hb, cell_keep (unhide H0).2.2 hb⟩))
  have HF := hide H1.1
  clear H1 hb HS
  go_wp2
  go_ret
  refine ⟨ret_int ?_, (unhide HW).1.below (unhide HF), (unhide HW).2.trans (Put.of ?_ (unhide HF))⟩
  · rw [unhide HE, IntKind.wrap_i64, IntKind.wrap_i64]
    omega
  · have := (unhide HW).1.lt
    omega

set_option maxRecDepth 10000 in
set_option maxHeartbeats 2000000 in
theorem item_any (B r c : Nat) (l : List Nat) (x : It) (w : World) (h : Wr B w r c l) (hc : c ≤ 1000000) (hl : l.length + (itL x).length ≤ 1000000) :
    Calls Try.prog 38 #[.pointer (some ⟨r, 0, none⟩), .agg #[.string x.1, .string x.2]] w fun e w' => e = .returned (.int .i64 (sz (c + 1) (l ++ itL x).length : Nat)) ∧ Wr B w' r (c + 1) (l ++ itL x) ∧ Put B r w w' := by
  obtain ⟨k, v⟩ := x
  have hrp : w.heap.size ≠ r := by have := h.lt; omega
  have hBw : B ≤ w.heap.size := by have := h.lt; have := h.1; omega
  have hlen : (itL (k, v)).length = (txL k).length + (txL v).length := by unfold itL; exact List.length_append
  have hk1 : k.size ≤ (txL k).length := by unfold txL; rw [List.length_append, bn_length]; omega
  have hv1 : v.size ≤ (txL v).length := by unfold txL; rw [List.length_append, bn_length]; omega
  have hks : k.size ≤ 1000000 := by omega
  have hvs : v.size ≤ 1000000 := by omega
  have T1 := hide (fun W => text_any k W hks)
  have T2 := hide (fun W => text_any v W hvs)
  rw [strOf_txL] at T1 T2
  have hz1 := strOf_size (txL k)
  have hz2 := strOf_size (txL v)
  have HW := hide (h.below (below_alloc w (.cells #[.string k, .string v] 47)))
  have hp := heap_alloc_new w (.cells #[.string k, .string v] 47)
  have HP := hide (And.intro hrp hBw)
  have HBW := hide hBw
  have HB0 := hide (below_alloc w (.cells #[.string k, .string v] 47))
  have HE : Hid (bn (strOf (txL k) ++ strOf (txL v)) = itL (k, v)) := by
    show _ = _
    rw [bn_append, bn_strOf _ (txL_lt k), bn_strOf _ (txL_lt v)]
    rfl
  have hsum : (strOf (txL k)).size + (strOf (txL v)).size ≤ 1000000 := by omega
  have HL : Hid (l.length + (strOf (txL k)).size + (strOf (txL v)).size ≤ 1000000) := by show _ ≤ _; omega
  clear h hlen hl hk1 hv1 hks hvs hz1 hz2 hrp hBw
  go_enter Try.func38, Try.ntmps38
  go_wp2_with fail
  generalize strOf (txL k) = K at *
  generalize strOf (txL v) = V at *
  obtain ⟨p, hp'⟩ : ∃ y, y = w.heap.size := ⟨_, rfl⟩
  rw [← hp'] at hp HP ⊢
  generalize w.alloc (.cells #[.string k, .string v] 47) = w1 at *
  have q0 := two_cell0 hp
  have q1 := two_cell1 hp
  have HQ := hide hp
  clear hp hp'
  have hadd := add_run' K V hsum
  have KP : Hid (∀ wa wb, (wa.heap[p]? = some (.cells #[.string k, .string v] 47 (0, 0)) ∧ wa.cell? ⟨p, 0, none⟩ = some (.string k) ∧ wa.cell? ⟨p, 1, none⟩ = some (.string v)) → Turned r wa wb → (wb.heap[p]? = some (.cells #[.string k, .string v] 47 (0, 0)) ∧ wb.cell? ⟨p, 0, none⟩ = some (.string k) ∧ wb.cell? ⟨p, 1, none⟩ = some (.string v))) := by
    show ∀ wa wb, _
    intro wa wb h ht
    have := ht.get (unhide HP).1 (by decide) h.1
    exact ⟨this, two_cell0 this, two_cell1 this⟩
  have H0 : Hid (w1.drew.heap[p]? = some (.cells #[.string k, .string v] 47 (0, 0)) ∧ w1.drew.cell? ⟨p, 0, none⟩ = some (.string k) ∧ w1.drew.cell? ⟨p, 1, none⟩ = some (.string v)) := ⟨unhide HQ, q0, q1⟩
  have HWD := hide ((unhide HW).below (below_drew _))
  clear HQ q0 q1 HW
  go_region_held3 (fun w' => w'.heap[p]? = some (.cells #[.string k, .string v] 47 (0, 0)) ∧ w'.cell? ⟨p, 0, none⟩ = some (.string k) ∧ w'.cell? ⟨p, 1, none⟩ = some (.string v))
    (first | assumption | exact unhide H0)
    (first
      | (go_at_call 59; refine (put_any B r c l _ _ (unhide HW2) hc ?_).mono ?_; (rw [ByteArray.size_append]; have := unhide HL; omega); rintro e w4 ⟨rfl, hw4, hp4⟩; have H4 := unhide KP _ _ H2 hp4.2; have HW4 := hide hw4; have HP4 := hide hp4; clear hw4 hp4)
      | (go_at_call 60; refine (unhide T1 _).mono ?_; rintro e w2 ⟨rfl, hb⟩; have H1 := unhide KP _ _ (unhide H0) (Turned.of (r := r) hb); have HW1 := hide ((unhide HWD).below hb); have HB1 := hide hb; clear hb T1)
      | (go_at_call 60; refine (unhide T2 _).mono ?_; rintro e w3 ⟨rfl, hb⟩; have H2 := unhide KP _ _ H1 (Turned.of (r := r) hb); have HW2 := hide ((unhide HW1).below hb); have HB2 := hide hb; clear hb))
  have HF := hide ((Put.of (r := r) (unhide HBW) (below_then (below_then (below_then (unhide HB0) (below_drew _)) (unhide HB1)) (unhide HB2))).trans (unhide HP4))
  clear HP4 HB2 HB1 HB0 KP H0 H1 H2 H4 HW1 HW2 HWD T2 hadd
  go_wp2
  go_ret
  have e := unhide HE
  refine ⟨ret_int ?_, ?_, unhide HF⟩
  · rw [← e, List.length_append, bn_length, ByteArray.size_append]
  · rw [← e]
    exact unhide HW4
set_option maxRecDepth 10000 in
set_option maxHeartbeats 2000000 in
theorem kid_any (B r c : Nat) (l : List Nat) (x : Kd) (w : World) (h : Wr B w r c l) (hv : 0 ≤ x.2 ∧ x.2 < 9223372036854775808) (hc : c ≤ 1000000) (hl : l.length + (kdL x).length ≤ 1000000) :
    Calls Try.prog 41 #[.pointer (some ⟨r, 0, none⟩), .agg #[.string x.1, .int .i64 x.2]] w fun e w' => e = .returned (.int .i64 (sz (c + 1) (l ++ kdL x).length : Nat)) ∧ Wr B w' r (c + 1) (l ++ kdL x) ∧ Put B r w w' := by
  obtain ⟨k, v⟩ := x
  have hrp : w.heap.size ≠ r := by have := h.lt; omega
  have hBw : B ≤ w.heap.size := by have := h.lt; have := h.1; omega
  have hlen : (kdL (k, v)).length = (txL k).length + (Pk.shL v.toNat).length := by unfold kdL; exact List.length_append
  have hk1 : k.size ≤ (txL k).length := by unfold txL; rw [List.length_append, bn_length]; omega
  have hv1 := Pk.shL_le v.toNat
  have hks : k.size ≤ 1000000 := by omega
  simp only at hv
  have hw : IntKind.u64.wrap v = v := by rw [IntKind.wrap_u64]; omega
  have T1 := hide (fun W => text_any k W hks)
  have T2 := hide (fun W => short_any v W (by omega))
  rw [strOf_txL] at T1
  have hz1 := strOf_size (txL k)
  have hz2 := strOf_size (Pk.shL v.toNat)
  have HW := hide (h.below (below_alloc w (.cells #[.string k, .int .i64 v] 49)))
  have hp := heap_alloc_new w (.cells #[.string k, .int .i64 v] 49)
  have HP := hide (And.intro hrp hBw)
  have HBW := hide hBw
  have HB0 := hide (below_alloc w (.cells #[.string k, .int .i64 v] 49))
  have HE : Hid (bn (strOf (txL k) ++ strOf (Pk.shL v.toNat)) = kdL (k, v)) := by
    show _ = _
    rw [bn_append, bn_strOf _ (txL_lt k), bn_strOf _ (Pk.shL_lt _)]
    rfl
  have hsum : (strOf (txL k)).size + (strOf (Pk.shL v.toNat)).size ≤ 1000000 := by omega
  have HL : Hid (l.length + (strOf (txL k)).size + (strOf (Pk.shL v.toNat)).size ≤ 1000000) := by show _ ≤ _; omega
  clear h hlen hl hk1 hv1 hks hz1 hz2 hrp hBw
  go_enter Try.func41, Try.ntmps41
  go_wp2_with fail
  generalize strOf (txL k) = K at *
  generalize strOf (Pk.shL v.toNat) = V at *
  obtain ⟨p, hp'⟩ : ∃ y, y = w.heap.size := ⟨_, rfl⟩
  rw [← hp'] at hp HP ⊢
  generalize w.alloc (.cells #[.string k, .int .i64 v] 49) = w1 at *
  have q0 := two_cell0 hp
  have q1 := two_cell1 hp
  have HQ := hide hp
  clear hp hp'
  have hadd := add_run' K V hsum
  have KP : Hid (∀ wa wb, (wa.heap[p]? = some (.cells #[.string k, .int .i64 v] 49 (0, 0)) ∧ wa.cell? ⟨p, 0, none⟩ = some (.string k) ∧ wa.cell? ⟨p, 1, none⟩ = some (.int .i64 v)) → Turned r wa wb → (wb.heap[p]? = some (.cells #[.string k, .int .i64 v] 49 (0, 0)) ∧ wb.cell? ⟨p, 0, none⟩ = some (.string k) ∧ wb.cell? ⟨p, 1, none⟩ = some (.int .i64 v))) := by
    show ∀ wa wb, _
    intro wa wb h ht
    have := ht.get (unhide HP).1 (by decide) h.1
    exact ⟨this, two_cell0 this, two_cell1 this⟩
  have H0 : Hid (w1.drew.heap[p]? = some (.cells #[.string k, .int .i64 v] 49 (0, 0)) ∧ w1.drew.cell? ⟨p, 0, none⟩ = some (.string k) ∧ w1.drew.cell? ⟨p, 1, none⟩ = some (.int .i64 v)) := ⟨unhide HQ, q0, q1⟩
  have HWD := hide ((unhide HW).below (below_drew _))
  clear HQ q0 q1 HW
  go_region_held3 (fun w' => w'.heap[p]? = some (.cells #[.string k, .int .i64 v] 49 (0, 0)) ∧ w'.cell? ⟨p, 0, none⟩ = some (.string k) ∧ w'.cell? ⟨p, 1, none⟩ = some (.int .i64 v))
    (first | assumption | exact unhide H0)
    (first
      | (go_at_call 59; refine (put_any B r c l _ _ (unhide HW2) hc ?_).mono ?_; (rw [ByteArray.size_append]; have := unhide HL; omega); rintro e w4 ⟨rfl, hw4, hp4⟩; have H4 := unhide KP _ _ H2 hp4.2; have HW4 := hide hw4; have HP4 := hide hp4; clear hw4 hp4)
      | (go_at_call 60; refine (unhide T1 _).mono ?_; rintro e w2 ⟨rfl, hb⟩; have H1 := unhide KP _ _ (unhide H0) (Turned.of (r := r) hb); have HW1 := hide ((unhide HWD).below hb); have HB1 := hide hb; clear hb T1)
      | (go_at_call 63; refine (unhide T2 _).mono ?_; rintro e w3 ⟨rfl, hb⟩; have H2 := unhide KP _ _ H1 (Turned.of (r := r) hb); have HW2 := hide ((unhide HW1).below hb); have HB2 := hide hb; clear hb))
  have HF := hide ((Put.of (r := r) (unhide HBW) (below_then (below_then (below_then (unhide HB0) (below_drew _)) (unhide HB1)) (unhide HB2))).trans (unhide HP4))
  clear HP4 HB2 HB1 HB0 KP H0 H1 H2 H4 HW1 HW2 HWD T2 hadd
  go_wp2
  go_ret
  have e := unhide HE
  refine ⟨ret_int ?_, ?_, unhide HF⟩
  · rw [← e, List.length_append, bn_length, ByteArray.size_append]
  · rw [← e]
    exact unhide HW4
end Go.Proofs.Ytepkifledonldaa
