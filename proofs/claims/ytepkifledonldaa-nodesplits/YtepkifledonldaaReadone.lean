/- One entry is read, as the program reads it. -/
import Derived.Test.YtepkifledonldaaApp
import Derived.Test.YtepkifledonldaaReader
import Derived.Laws.ResultCell
namespace Go.Proofs.Ytepkifledonldaa
open Go.ChangeShapes Go.WideShapes Go.ChangeAt Go.RowKit

theorem results_cell1 {fn : Func} {p : Tmp} {ty : TypeId} (h : fn.results = #[.cell p ty]) (tmps : Array Value) (P : Program) (w : World) :
    (results fn tmps).run P w = ((asAddr (tmps.getD p undef)).run P w).andThen fun a w₁ => (loadVar ty a).run P w₁ := by
  simp only [results, h]
  simp [Sem.run_bind, Result.andThen]

/-- THE DOCUMENT's: an item, a kid at the front: what is left, the error -/
def itemR (L : ByteArray) (e : Nat) : It × ByteArray × Nat :=
  (((textR L e 272).1, (textR (textR L e 272).2.1 (textR L e 272).2.2 160).1), (textR (textR L e 272).2.1 (textR L e 272).2.2 160).2.1, (textR (textR L e 272).2.1 (textR L e 272).2.2 160).2.2)
def kidR (L : ByteArray) (e : Nat) : Kd × ByteArray × Nat :=
  (((textR L e 272).1, wrap64 ((shortR (textR L e 272).2.1 (textR L e 272).2.2).1 : Int)), (shortR (textR L e 272).2.1 (textR L e 272).2.2).2.1, (shortR (textR L e 272).2.1 (textR L e 272).2.2).2.2)

theorem size_back (L : ByteArray) (k : Nat) : (L.extract k L.size).size ≤ L.size := by rw [ByteArray.size_extract]; omega
theorem byteR_le (L : ByteArray) (e : Nat) : (byteR L e).2.1.size ≤ L.size := by
  unfold byteR
  split
  · exact Nat.le_refl _
  · split
    · exact Nat.le_refl _
    · exact size_back _ _
theorem shortR_le (L : ByteArray) (e : Nat) : (shortR L e).2.1.size ≤ L.size := by
  unfold shortR
  split
  · exact Nat.le_refl _
  · exact size_back _ _
theorem textR_le (L : ByteArray) (e : Nat) (most : Int) : (textR L e most).2.1.size ≤ L.size := by
  unfold textR
  split
  · exact Nat.le_refl _
  · exact size_back _ _

/-- a new block of one's own beside the reader -/
theorem Told.pair {w w' : World} {r e : Nat} {L : ByteArray} {a b : Value} {t : TypeId} (h : Told (w.alloc (.cells #[a, b] t)) w' r L e) (hr : r < w.heap.size) : w'.heap[w.heap.size]? = some (.cells #[a, b] t (0, 0)) :=
  (h.1.block w.heap.size (by simp) (by simp; omega)).trans (heap_alloc_new w _)
theorem Told.pair' {w1 w' : World} {p r e : Nat} {L : ByteArray} {a b : Value} {t : TypeId} (h : Told w1 w' r L e) (hp : p ≠ r) (hh : w1.heap[p]? = some (.cells #[a, b] t (0, 0))) : w'.heap[p]? = some (.cells #[a, b] t (0, 0)) :=
  (h.1.block p (lt_of_block hh) (fun e => hp (Option.some.inj e))).trans hh
theorem Told.then {w w1 w2 : World} {r e e2 : Nat} {L L2 : ByteArray} (h : Told w w1 r L e) (k : Told w1 w2 r L2 e2) : Told w w2 r L2 e2 := ⟨grown_trans h.1 k.1, k.2⟩
theorem Told.store {w w' : World} {r e p : Nat} {L : ByteArray} (h : Told w w' r L e) (hp : w.heap.size ≤ p) (hr : r < w.heap.size) (j : Nat) (u : Value) : Told w (w'.setCell ⟨p, j, none⟩ u) r L e := by
  refine ⟨⟨h.1.os, h.1.tape, h.1.output, ?_, fun k hk hne => ?_⟩, ?_⟩
  · have := h.1.size
    simpa [World.setCell] using this
  · rw [Below.heap_setCell _ _ _ _ (show k ≠ p by omega)]
    exact h.1.block k hk hne
  · exact (Below.heap_setCell _ ⟨p, j, none⟩ _ _ (show r ≠ p by omega)).trans h.2

set_option maxRecDepth 10000 in
set_option maxHeartbeats 1000000 in
theorem readItem_any (r e : Nat) (L : ByteArray) (w : World) (hr : Rd w r L e) (hL : L.size ≤ 1000000) :
    Calls Try.prog 55 #[.pointer (some ⟨r, 0, none⟩)] w fun x w' => x = .returned (.agg #[.string (itemR L e).1.1, .string (itemR L e).1.2]) ∧ Told w w' r (itemR L e).2.1 (itemR L e).2.2 := by
  have hrl := hr.lt
  have hb := hr.alloc (.cells #[.string ⟨#[]⟩, .string ⟨#[]⟩] 47)
  have H1 := hide (rtext_any r e L 272 _ hb hL (by omega))
  have hle := textR_le L e 272
  have H2 := hide (fun W (hW : Rd W r (textR L e 272).2.1 (textR L e 272).2.2) => rtext_any r _ _ 160 W hW (by omega) (by omega))
  have e1 : (itemR L e).1.1 = (textR L e 272).1 := rfl
  have e2 : (itemR L e).1.2 = (textR (textR L e 272).2.1 (textR L e 272).2.2 160).1 := rfl
  have e3 : (itemR L e).2 = ((textR (textR L e 272).2.1 (textR L e 272).2.2 160).2.1, (textR (textR L e 272).2.1 (textR L e 272).2.2 160).2.2) := rfl
  rw [e1, e2, e3]
  have HR := hide hr
  clear e1 e2 e3 hb hr hle
  generalize textR L e 272 = T at *
  generalize textR T.2.1 T.2.2 160 = U at *
  go_enter Try.func55, Try.ntmps55
  go_wp2_with fail
  refine (unhide H1).mono ?_
  rintro x w1 ⟨rfl, ht⟩
  have HP := hide (ht.pair hrl)
  have HT := hide ht.boxed
  have HD := hide ht.2
  clear ht
  obtain ⟨p, hp⟩ : ∃ y, y = w.heap.size := ⟨_, rfl⟩
  rw [← hp] at HP ⊢
  have HPE := hide (And.intro (Nat.le_of_eq hp.symm) (show p ≠ r by omega))
  clear hp
  go_wp2_with fail
  refine (unhide H2 _ (unhide HD)).mono ?_
  rintro x w2 ⟨rfl, ht⟩
  have hp2 := ht.pair' (unhide HPE).2 (unhide HP)
  have HT2 := hide ((unhide HT).then ht)
  clear ht
  have c0 := two_cell0 hp2
  have c1 := two_cell1 hp2
  have f0 := two_free hp2 0
  have f1 := two_free hp2 1
  clear hp2
  go_wp2
  refine bodyPost_ret (v := .agg #[.string T.1, .string U.1]) ?_ rfl ⟨rfl, ?_⟩
  · rw [results_cell1 rfl]
    go_simp
  · exact ((unhide HT2).store (unhide HPE).1 hrl 0 _).store (unhide HPE).1 hrl 1 _

set_option maxRecDepth 10000 in
set_option maxHeartbeats 1000000 in
theorem readKid_any (r e : Nat) (L : ByteArray) (w : World) (hr : Rd w r L e) (hL : L.size ≤ 1000000) :
    Calls Try.prog 57 #[.pointer (some ⟨r, 0, none⟩)] w fun x w' => x = .returned (.agg #[.string (kidR L e).1.1, .int .i64 (kidR L e).1.2]) ∧ Told w w' r (kidR L e).2.1 (kidR L e).2.2 := by
  have hrl := hr.lt
  have hb := hr.alloc (.cells #[.string ⟨#[]⟩, .int .i64 0] 49)
  have H1 := hide (rtext_any r e L 272 _ hb hL (by omega))
  have hle := textR_le L e 272
  have H2 := hide (fun W (hW : Rd W r (textR L e 272).2.1 (textR L e 272).2.2) => rshort_any r _ _ W hW (by omega))
  have e1 : (kidR L e).1.1 = (textR L e 272).1 := rfl
  have e2 : (kidR L e).1.2 = wrap64 ((shortR (textR L e 272).2.1 (textR L e 272).2.2).1 : Int) := rfl
  have e3 : (kidR L e).2 = ((shortR (textR L e 272).2.1 (textR L e 272).2.2).2.1, (shortR (textR L e 272).2.1 (textR L e 272).2.2).2.2) := rfl
  rw [e1, e2, e3]
  have HR := hide hr
  clear e1 e2 e3 hb hr hle
  generalize textR L e 272 = T at *
  generalize shortR T.2.1 T.2.2 = U at *
  go_enter Try.func57, Try.ntmps57
  go_wp2_with fail
  refine (unhide H1).mono ?_
  rintro x w1 ⟨rfl, ht⟩
  have HP := hide (ht.pair hrl)
  have HT := hide ht.boxed
  have HD := hide ht.2
  clear ht
  obtain ⟨p, hp⟩ : ∃ y, y = w.heap.size := ⟨_, rfl⟩
  rw [← hp] at HP ⊢
  have HPE := hide (And.intro (Nat.le_of_eq hp.symm) (show p ≠ r by omega))
  clear hp
  go_wp2_with fail
  refine (unhide H2 _ (unhide HD)).mono ?_
  rintro x w2 ⟨rfl, ht⟩
  have hp2 := ht.pair' (unhide HPE).2 (unhide HP)
  have HT2 := hide ((unhide HT).then ht)
  clear ht
  have c0 := two_cell0 hp2
  have c1 := two_cell1 hp2
  have f0 := two_free hp2 0
  have f1 := two_free hp2 1
  clear hp2
  go_wp2
  refine bodyPost_ret (v := .agg #[.string T.1, .int .i64 (wrap64 (U.1 : Int))]) ?_ rfl ⟨rfl, ?_⟩
  · rw [results_cell1 rfl]
    go_simp
  · exact ((unhide HT2).store (unhide HPE).1 hrl 0 _).store (unhide HPE).1 hrl 1 _
end Go.Proofs.Ytepkifledonldaa
