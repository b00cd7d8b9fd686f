/- Texts that the proof needs, one behind the other. -/
import Derived.Test.YtdelobaiicoogaaGreatDoorMah
import Derived.Test.YtdelobaiicoogaaGreatDoorMag
import Derived.Laws.ResultCell
import Derived.Laws.OwnMore
/- What a reader of package pack answers, call by call. -/
namespace Go.Proofs.YtdelobaiicoogaaGreatDoor.L6
open Go.ChangeShapes Go.WideShapes Go.ChangeAt Go.RowKit

/-- THE DOCUMENT's: the answer, what is left, the error -/
def byteR (L : ByteArray) (e : Nat) : Nat × ByteArray × Nat :=
  if e ≠ 0 then (0, L, e) else if L.size = 0 then (0, L, 20) else ((bn L).getD 0 0, L.extract 1 L.size, 0)
def shortR (L : ByteArray) (e : Nat) : Nat × ByteArray × Nat :=
  if e ≠ 0 then (0, L, e) else ((Pk.scan (bn L)).1, L.extract (Pk.scan (bn L)).2.1 L.size, (Pk.scan (bn L)).2.2)
def textR (L : ByteArray) (e : Nat) (most : Int) : ByteArray × ByteArray × Nat :=
  if e ≠ 0 then (⟨#[]⟩, L, e) else ((textOf L most).1, L.extract (textOf L most).2.1 L.size, (textOf L most).2.2)
def endR (L : ByteArray) (e : Nat) : Nat := if e ≠ 0 then e else if L.size = 0 then 0 else 22

theorem ext0 (L : ByteArray) : L.extract 0 L.size = L := by
  apply ByteArray.ext
  simp
theorem byte0 (L : ByteArray) (h : 0 < L.size) : (bn L).getD 0 0 = L[0].toNat := by
  rw [List.getD_eq_getElem?_getD, bn_at L 0 h]
  rfl
theorem textOf_le (L : ByteArray) (most : Int) : (textOf L most).2.1 ≤ L.size := by
  rcases scan_cases L with ⟨n, k, hsc, _, _, _, hks, _, _⟩ | ⟨er, hsc, h0, _, _⟩
  · by_cases h1 : most < 0 ∨ most < (n : Int)
    · rw [textOf_long hsc h1]; exact Nat.zero_le _
    · by_cases h2 : L.size - k < n
      · rw [textOf_short hsc h1 h2]; exact Nat.zero_le _
      · rw [textOf_ok hsc h1 h2]
        show k + n ≤ _
        omega
  · rw [textOf_bad most hsc h0]; exact Nat.zero_le _
theorem scan_le (L : ByteArray) : (Pk.scan (bn L)).2.1 ≤ L.size := by
  rcases scan_cases L with ⟨n, k, hsc, _, _, _, hks, _, _⟩ | ⟨er, hsc, h0, _, _⟩
  · rw [hsc]; exact hks
  · rw [hsc]; exact Nat.zero_le _

set_option maxHeartbeats 400000 in
theorem read_any (s : ByteArray) (w : World) :
    Calls Tryz.prog 178 #[.string s] w fun x w' => x = .returned (.pointer (some ⟨w.heap.size, 0, none⟩)) ∧ w' = w.alloc (.cells #[.string s, .int .i64 0] 334) := by
  go_enter Tryz.func178, Tryz.ntmps178
  go_wp2
  go_ret
  exact ⟨rfl, rfl⟩
theorem Rd.new (w : World) (s : ByteArray) : Rd (w.alloc (.cells #[.string s, .int .i64 0] 334)) w.heap.size s 0 := heap_alloc_new w _

theorem box_cell (w : World) (v : Value) (t : TypeId) : (w.alloc (.cells #[v] t)).cell? ⟨w.heap.size, 0, none⟩ = some v := by simp

/- Byte -/
theorem takeByte_any (r e : Nat) (L : ByteArray) (w : World) (hr : Rd w r L e) (hL : L.size ≤ 1000000) :
    Calls Tryz.prog 223 #[.pointer (some ⟨r, 0, none⟩), .func (.func 224) #[] #[]] w fun x w' => x = .returned (.int .u8 ((byteR L e).1 : Int)) ∧ Told w w' r (byteR L e).2.1 (byteR L e).2.2 := by
  by_cases he : e ≠ 0
  · unfold byteR
    rw [if_pos he]
    exact take_err_u8 _ r e L w hr he
  · obtain rfl : e = 0 := by omega
    unfold byteR
    rw [if_neg he]
    by_cases h0 : L.size = 0
    · rw [if_pos h0]
      have h := take_byte r 0 20 0 L w hr hL (Nat.zero_le _) ((byteAhead_none w.heap.size r 0 L L _ h0 (box_cell _ _ _) (hr.alloc _)).mono (by rintro x w' ⟨rfl, rfl⟩; exact ⟨rfl, Told.err (hr.alloc _) 20⟩))
      rw [ext0] at h
      exact h
    · rw [if_neg h0]
      have hp : 0 < L.size := by omega
      have h := take_byte r 1 0 (L[0].toNat) L w hr hL hp ((byteAhead_some _ L _ hp).mono (by rintro x w' ⟨rfl, rfl⟩; exact ⟨rfl, Told.refl (hr.alloc _)⟩))
      rw [byte0 L hp]
      exact h
set_option maxHeartbeats 400000 in
theorem byte_any (r e : Nat) (L : ByteArray) (w : World) (hr : Rd w r L e) (hL : L.size ≤ 1000000) :
    Calls Tryz.prog 204 #[.pointer (some ⟨r, 0, none⟩)] w fun x w' => x = .returned (.int .u8 ((byteR L e).1 : Int)) ∧ Told w w' r (byteR L e).2.1 (byteR L e).2.2 := by
  have HT := hide (takeByte_any r e L w hr hL)
  clear hr
  generalize byteR L e = T at *
  go_enter Tryz.func204, Tryz.ntmps204
  go_wp2_with (go_at_call 223; refine (unhide HT).mono ?_; rintro x w' ⟨rfl, ht⟩)
  go_ret
  exact ⟨rfl, ht⟩
/- Fixed -/
/- Short -/
theorem takeShort_any (r e : Nat) (L : ByteArray) (w : World) (hr : Rd w r L e) (hL : L.size ≤ 1000000) :
    Calls Tryz.prog 225 #[.pointer (some ⟨r, 0, none⟩), .func (.func 253) #[] #[]] w fun x w' => x = .returned (.int .u64 ((shortR L e).1 : Int)) ∧ Told w w' r (shortR L e).2.1 (shortR L e).2.2 := by
  by_cases he : e ≠ 0
  · unfold shortR
    rw [if_pos he]
    exact take_err_u64 _ r e L w hr he
  · obtain rfl : e = 0 := by omega
    unfold shortR
    rw [if_neg he]
    refine take_short r _ _ _ L w hr hL (scan_le L) ((shortAhead41 w.heap.size r 0 L L _ (by unfold maxLen; omega) (box_cell _ _ _) (hr.alloc _)).mono ?_)
    rintro x w' ⟨n, k, er, h, rfl, rfl⟩
    rw [h]
    exact ⟨rfl, Told.tell (hr.alloc _) er⟩
set_option maxHeartbeats 400000 in
theorem rshort_any (r e : Nat) (L : ByteArray) (w : World) (hr : Rd w r L e) (hL : L.size ≤ 1000000) :
    Calls Tryz.prog 234 #[.pointer (some ⟨r, 0, none⟩)] w fun x w' => x = .returned (.int .u64 ((shortR L e).1 : Int)) ∧ Told w w' r (shortR L e).2.1 (shortR L e).2.2 := by
  have HT := hide (takeShort_any r e L w hr hL)
  clear hr
  generalize shortR L e = T at *
  go_enter Tryz.func234, Tryz.ntmps234
  go_wp2_with (go_at_call 225; refine (unhide HT).mono ?_; rintro x w' ⟨rfl, ht⟩)
  go_ret
  exact ⟨rfl, ht⟩
/- Text -/
theorem takeText_any (r e d : Nat) (L : ByteArray) (most : Int) (w : World) (hr : Rd w r L e) (hL : L.size ≤ 1000000) (hm : -9223372036854775808 ≤ most ∧ most ≤ 9223372036854775807) (hd : w.cell? ⟨d, 0, none⟩ = some (.int .i64 most)) :
    Calls Tryz.prog 254 #[.pointer (some ⟨r, 0, none⟩), .func (.func 255) #[] #[.pointer (some ⟨d, 0, none⟩)]] w fun x w' => x = .returned (.string (textR L e most).1) ∧ Told w w' r (textR L e most).2.1 (textR L e most).2.2 := by
  by_cases he : e ≠ 0
  · unfold textR
    rw [if_pos he]
    exact take_err_str _ r e L w hr he
  · obtain rfl : e = 0 := by omega
    unfold textR
    rw [if_neg he]
    have hd' : (w.alloc (.cells #[.pointer (some ⟨r, 0, none⟩)] 297)).cell? ⟨d, 0, none⟩ = some (.int .i64 most) :=
      (((Below.refl w.heap.size w).alloc (Nat.le_refl _) _).cell (World.block_lt_of_cell? w ⟨d, 0, none⟩ hd)).trans hd
    exact take_text r _ _ _ L w d hr hL (textOf_le L most) (textClosure w.heap.size r d L L most _ hL hm hd' (box_cell _ _ _) (hr.alloc _))
theorem Told.boxed {w w' : World} {o : Obj} {r e : Nat} {L : ByteArray} (h : Told (w.alloc o) w' r L e) : Told w w' r L e := ⟨grown_trans (grown_alloc w o _) h.1, h.2⟩
set_option maxHeartbeats 400000 in
theorem rtext_any (r e : Nat) (L : ByteArray) (most : Int) (w : World) (hr : Rd w r L e) (hL : L.size ≤ 1000000) (hm : -9223372036854775808 ≤ most ∧ most ≤ 9223372036854775807) :
    Calls Tryz.prog 236 #[.pointer (some ⟨r, 0, none⟩), .int .i64 most] w fun x w' => x = .returned (.string (textR L e most).1) ∧ Told w w' r (textR L e most).2.1 (textR L e most).2.2 := by
  have HT := hide (takeText_any r e w.heap.size L most (w.alloc (.cells #[.int .i64 most] 3)) (hr.alloc _) hL hm (box_cell _ _ _))
  clear hr
  generalize textR L e most = T at *
  go_enter Tryz.func236, Tryz.ntmps236
  go_wp2_with (go_at_call 254; refine (unhide HT).mono ?_; rintro x w' ⟨rfl, ht⟩)
  go_ret
  exact ⟨rfl, ht.boxed⟩
/- Left -/
/- End -/
end Go.Proofs.YtdelobaiicoogaaGreatDoor.L6

/- One entry is read, as the program reads it. -/
namespace Go.Proofs.YtdelobaiicoogaaGreatDoor.L6
open Go.ChangeShapes Go.WideShapes Go.ChangeAt Go.RowKit

theorem results_cell1 {fn : Func} {p : Tmp} {ty : TypeId} (h : fn.results = #[.cell p ty]) (tmps : Array Value) (P : Program) (w : World) :
    (results fn tmps).run P w = ((asAddr (tmps.getD p undef)).run P w).andThen fun a w₁ => (loadVar ty a).run P w₁ := by
  simp only [results, h]
  simp [Sem.run_bind, Result.andThen]

/-- THE DOCUMENT's: an item, a kid at the front: what is left, the error -/
def itemR (L : ByteArray) (e : Nat) : It × ByteArray × Nat :=
  (((textR L e 272).1, (textR (textR L e 272).2.1 (textR L e 272).2.2 160).1), (textR (textR L e 272).2.1 (textR L e 272).2.2 160).2.1, (textR (textR L e 272).2.1 (textR L e 272).2.2 160).2.2)
def kidR (L : ByteArray) (e : Nat) : Kd × ByteArray × Nat :=
  (((textR L e 272).1, wrap64 ((shortR (textR L e 272).2.1 (textR L e 272).2.2).1 : Int)), (shortR (textR L e 272).2.1 (textR L e 272).2.2).2.1, (shortR (textR L e 272).2.1 (textR L e 272).2.2).2.2)

theorem size_back (L : ByteArray) (k : Nat) : (L.extract k L.size).size ≤ L.size := by rw [ByteArray.size_extract]; omega
theorem byteR_le (L : ByteArray) (e : Nat) : (byteR L e).2.1.size ≤ L.size := by
  unfold byteR
  split
  · exact Nat.le_refl _
  · split
    · exact Nat.le_refl _
    · exact size_back _ _
theorem shortR_le (L : ByteArray) (e : Nat) : (shortR L e).2.1.size ≤ L.size := by
  unfold shortR
  split
  · exact Nat.le_refl _
  · exact size_back _ _
theorem textR_le (L : ByteArray) (e : Nat) (most : Int) : (textR L e most).2.1.size ≤ L.size := by
  unfold textR
  split
  · exact Nat.le_refl _
  · exact size_back _ _

/-- a new block of one's own beside the reader -/
theorem Told.pair {w w' : World} {r e : Nat} {L : ByteArray} {a b : Value} {t : TypeId} (h : Told (w.alloc (.cells #[a, b] t)) w' r L e) (hr : r < w.heap.size) : w'.heap[w.heap.size]? = some (.cells #[a, b] t (0, 0)) :=
  (h.1.block w.heap.size (by simp) (by simp; omega)).trans (heap_alloc_new w _)
theorem Told.pair' {w1 w' : World} {p r e : Nat} {L : ByteArray} {a b : Value} {t : TypeId} (h : Told w1 w' r L e) (hp : p ≠ r) (hh : w1.heap[p]? = some (.cells #[a, b] t (0, 0))) : w'.heap[p]? = some (.cells #[a, b] t (0, 0)) :=
  (h.1.block p (lt_of_block hh) (fun e => hp (Option.some.inj e))).trans hh
theorem Told.then {w w1 w2 : World} {r e e2 : Nat} {L L2 : ByteArray} (h : Told w w1 r L e) (k : Told w1 w2 r L2 e2) : Told w w2 r L2 e2 := ⟨grown_trans h.1 k.1, k.2⟩
theorem Told.store {w w' : World} {r e p : Nat} {L : ByteArray} (h : Told w w' r L e) (hp : w.heap.size ≤ p) (hr : r < w.heap.size) (j : Nat) (u : Value) : Told w (w'.setCell ⟨p, j, none⟩ u) r L e := by
  refine ⟨⟨h.1.os, h.1.tape, h.1.output, ?_, fun k hk hne => ?_⟩, ?_⟩
  · have := h.1.size
    simpa [World.setCell] using this
  · rw [Below.heap_setCell _ _ _ _ (show k ≠ p by omega)]
    exact h.1.block k hk hne
  · exact (Below.heap_setCell _ ⟨p, j, none⟩ _ _ (show r ≠ p by omega)).trans h.2

set_option maxRecDepth 10000 in
set_option maxHeartbeats 1000000 in
theorem readItem_any (r e : Nat) (L : ByteArray) (w : World) (hr : Rd w r L e) (hL : L.size ≤ 1000000) :
    Calls Tryz.prog 208 #[.pointer (some ⟨r, 0, none⟩)] w fun x w' => x = .returned (.agg #[.string (itemR L e).1.1, .string (itemR L e).1.2]) ∧ Told w w' r (itemR L e).2.1 (itemR L e).2.2 := by
  have hrl := hr.lt
  have hb := hr.alloc (.cells #[.string ⟨#[]⟩, .string ⟨#[]⟩] 58)
  have H1 := hide (rtext_any r e L 272 _ hb hL (by omega))
  have hle := textR_le L e 272
  have H2 := hide (fun W (hW : Rd W r (textR L e 272).2.1 (textR L e 272).2.2) => rtext_any r _ _ 160 W hW (by omega) (by omega))
  have e1 : (itemR L e).1.1 = (textR L e 272).1 := rfl
  have e2 : (itemR L e).1.2 = (textR (textR L e 272).2.1 (textR L e 272).2.2 160).1 := rfl
  have e3 : (itemR L e).2 = ((textR (textR L e 272).2.1 (textR L e 272).2.2 160).2.1, (textR (textR L e 272).2.1 (textR L e 272).2.2 160).2.2) := rfl
  rw [e1, e2, e3]
  have HR := hide hr
  clear e1 e2 e3 hb hr hle
  generalize textR L e 272 = T at *
  generalize textR T.2.1 T.2.2 160 = U at *
  go_enter Tryz.func208, Tryz.ntmps208
  go_wp2_with fail
  refine (unhide H1).mono ?_
  rintro x w1 ⟨rfl, ht⟩
  have HP := hide (ht.pair hrl)
  have HT := hide ht.boxed
  have HD := hide ht.2
  clear ht
  obtain ⟨p, hp⟩ : ∃ y, y = w.heap.size := ⟨_, rfl⟩
  rw [← hp] at HP ⊢
  have HPE := hide (And.intro (Nat.le_of_eq hp.symm) (show p ≠ r by omega))
  clear hp
  go_wp2_with fail
  refine (unhide H2 _ (unhide HD)).mono ?_
  rintro x w2 ⟨rfl, ht⟩
  have hp2 := ht.pair' (unhide HPE).2 (unhide HP)
  have HT2 := hide ((unhide HT).then ht)
  clear ht
  have c0 := two_cell0 hp2
  have c1 := two_cell1 hp2
  have f0 := two_free hp2 0
  have f1 := two_free hp2 1
  clear hp2
  go_wp2
  refine bodyPost_ret (v := .agg #[.string T.1, .string U.1]) ?_ rfl ⟨rfl, ?_⟩
  · rw [results_cell1 rfl]
    go_simp
  · exact ((unhide HT2).store (unhide HPE).1 hrl 0 _).store (unhide HPE).1 hrl 1 _

set_option maxRecDepth 10000 in
set_option maxHeartbeats 1000000 in
theorem readKid_any (r e : Nat) (L : ByteArray) (w : World) (hr : Rd w r L e) (hL : L.size ≤ 1000000) :
    Calls Tryz.prog 210 #[.pointer (some ⟨r, 0, none⟩)] w fun x w' => x = .returned (.agg #[.string (kidR L e).1.1, .int .i64 (kidR L e).1.2]) ∧ Told w w' r (kidR L e).2.1 (kidR L e).2.2 := by
  have hrl := hr.lt
  have hb := hr.alloc (.cells #[.string ⟨#[]⟩, .int .i64 0] 76)
  have H1 := hide (rtext_any r e L 272 _ hb hL (by omega))
  have hle := textR_le L e 272
  have H2 := hide (fun W (hW : Rd W r (textR L e 272).2.1 (textR L e 272).2.2) => rshort_any r _ _ W hW (by omega))
  have e1 : (kidR L e).1.1 = (textR L e 272).1 := rfl
  have e2 : (kidR L e).1.2 = wrap64 ((shortR (textR L e 272).2.1 (textR L e 272).2.2).1 : Int) := rfl
  have e3 : (kidR L e).2 = ((shortR (textR L e 272).2.1 (textR L e 272).2.2).2.1, (shortR (textR L e 272).2.1 (textR L e 272).2.2).2.2) := rfl
  rw [e1, e2, e3]
  have HR := hide hr
  clear e1 e2 e3 hb hr hle
  generalize textR L e 272 = T at *
  generalize shortR T.2.1 T.2.2 = U at *
  go_enter Tryz.func210, Tryz.ntmps210
  go_wp2_with fail
  refine (unhide H1).mono ?_
  rintro x w1 ⟨rfl, ht⟩
  have HP := hide (ht.pair hrl)
  have HT := hide ht.boxed
  have HD := hide ht.2
  clear ht
  obtain ⟨p, hp⟩ : ∃ y, y = w.heap.size := ⟨_, rfl⟩
  rw [← hp] at HP ⊢
  have HPE := hide (And.intro (Nat.le_of_eq hp.symm) (show p ≠ r by omega))
  clear hp
  go_wp2_with fail
  refine (unhide H2 _ (unhide HD)).mono ?_
  rintro x w2 ⟨rfl, ht⟩
  have hp2 := ht.pair' (unhide HPE).2 (unhide HP)
  have HT2 := hide ((unhide HT).then ht)
  clear ht
  have c0 := two_cell0 hp2
  have c1 := two_cell1 hp2
  have f0 := two_free hp2 0
  have f1 := two_free hp2 1
  clear hp2
  go_wp2
  refine bodyPost_ret (v := .agg #[.string T.1, .int .i64 (wrap64 (U.1 : Int))]) ?_ rfl ⟨rfl, ?_⟩
  · rw [results_cell1 rfl]
    go_simp
  · exact ((unhide HT2).store (unhide HPE).1 hrl 0 _).store (unhide HPE).1 hrl 1 _
end Go.Proofs.YtdelobaiicoogaaGreatDoor.L6

/- Entries in a row of one's own. -/
namespace Go.Proofs.YtdelobaiicoogaaGreatDoor.L6
open Go.ChangeShapes Go.WideShapes Go.ChangeAt Go.RowKit

def pairs {β : Type} (sv : β → Value) (l : List (ByteArray × β)) : List Value := l.flatMap fun x => [Value.string x.1, sv x.2]
theorem pairs_append {β : Type} (sv : β → Value) (l r : List (ByteArray × β)) : pairs sv (l ++ r) = pairs sv l ++ pairs sv r := List.flatMap_append
theorem pairs_get {β : Type} (sv : β → Value) (l : List (ByteArray × β)) (i : Nat) (x : ByteArray × β) (h : l[i]? = some x) : (pairs sv l)[i * 2]? = some (.string x.1) ∧ (pairs sv l)[i * 2 + 1]? = some (sv x.2) := by
  induction l generalizing i with
  | nil => simp at h
  | cons y t ih =>
    have e : pairs sv (y :: t) = Value.string y.1 :: sv y.2 :: pairs sv t := rfl
    cases i with
    | zero =>
      simp at h
      subst h
      rw [e]
      exact ⟨rfl, rfl⟩
    | succ i =>
      have := ih i (by simpa using h)
      rw [e]
      have e1 : (i + 1) * 2 = i * 2 + 1 + 1 := by omega
      rw [e1]
      simpa using this
/-- entries of type T in a row of one's own -/
def OwnE {β : Type} (sv : β → Value) (T : TypeId) (B : Nat) (w : World) (v : Value) (l : List (ByteArray × β)) : Prop := w.ownsRow B T 2 v l.length (pairs sv l)
theorem OwnE.nil {β : Type} (sv : β → Value) (T : TypeId) (B : Nat) (w : World) : OwnE sv T B w (.slice none 0 0) [] := World.ownsRow_nil _ _ _ _
theorem OwnE.row {β : Type} {sv : β → Value} {T : TypeId} {B : Nat} {w : World} {a : Option Addr} {n cap : Nat} {l : List (ByteArray × β)} (h : OwnE sv T B w (.slice a n cap) l) : Row sv w a l := by
  have h' := h
  rcases h.2 with ⟨_, hn⟩ | ⟨g, cap', cur, e, _⟩
  · exact .inl (List.length_eq_zero_iff.1 hn)
  · injection e with e1 e2 e3
    subst e1 e2 e3
    refine .inr ⟨g, 0, rfl, fun i x hx => ?_⟩
    have hi : i < l.length := (List.getElem?_eq_some_iff.1 hx).1
    obtain ⟨p0, p1⟩ := pairs_get sv l i x hx
    rw [Nat.zero_add]
    exact ⟨(World.ownsRow.cellAt h' (i * 2) (by omega)).trans p0, (World.ownsRow.cellAt h' (i * 2 + 1) (by omega)).trans p1⟩
theorem OwnE.form {β : Type} {sv : β → Value} {T : TypeId} {B : Nat} {w : World} {v : Value} {l : List (ByteArray × β)} (h : OwnE sv T B w v l) : ∃ a cap, v = .slice a l.length cap := ownsRow_form h
theorem OwnE.below {β : Type} {sv : β → Value} {T : TypeId} {B : Nat} {w w' : World} {v : Value} {l : List (ByteArray × β)} (h : OwnE sv T B w v l) (hb : Below w.heap.size w w') : OwnE sv T B w' v l :=
  ownsRow_same h (fun g hg => hb.block g (World.ownsRow.lt h g hg).2)
theorem OwnE.base {β : Type} {sv : β → Value} {T : TypeId} {B B' : Nat} {w : World} {v : Value} {l : List (ByteArray × β)} (h : OwnE sv T B w v l) (hB : B' ≤ B) : OwnE sv T B' w v l := ownsRow_base h hB
theorem OwnE.snoc {β : Type} {sv : β → Value} {T : TypeId} {B : Nat} {w : World} {v : Value} {l : List (ByteArray × β)} {x : ByteArray × β} (h : w.ownsRow B T 2 v (l.length + 1) (pairs sv l ++ [.string x.1, sv x.2])) : OwnE sv T B w v (l ++ [x]) := by
  unfold OwnE
  rw [List.length_append, pairs_append]
  exact h
/-- a row isn't the block of another kind -/
theorem OwnE.other {β : Type} {sv : β → Value} {T : TypeId} {B : Nat} {w : World} {v : Value} {l : List (ByteArray × β)} (h : OwnE sv T B w v l) {r : Nat} {cs : Array Value} {t : TypeId} (hr : w.heap[r]? = some (.cells cs t (0, 0))) (ht : T ≠ t) : v.ownBlock ≠ some r := by
  intro e
  obtain ⟨cur, h0⟩ := ownsRow_kind h e
  rw [hr] at h0
  simp at h0
  exact ht h0.2.symm
theorem OwnE.told {β : Type} {sv : β → Value} {T : TypeId} (hT : T ≠ 334) {B : Nat} {w w' : World} {v : Value} {l : List (ByteArray × β)} {r e e' : Nat} {L L' : ByteArray} (h : OwnE sv T B w v l) (hr : Rd w r L e) (ht : Told w w' r L' e') : OwnE sv T B w' v l :=
  World.ownsRow.kept h ht.1 (.inr (h.other hr hT))
/-- behind an append to a row of one's own the reader is as it was -/
theorem Told.app {β : Type} {sv : β → Value} {T : TypeId} (hT : T ≠ 334) {B : Nat} {w w1 w2 : World} {v : Value} {l : List (ByteArray × β)} {r e : Nat} {L : ByteArray} (h : Told w w1 r L e) (ho : OwnE sv T B w1 v l) (hB : w.heap.size ≤ B) (hg : w1.grownBy w2 v.ownBlock) : Told w w2 r L e := by
  have hn := ho.other h.2 hT
  have hr := h.2.lt
  refine ⟨⟨hg.os.trans h.1.os, hg.tape.trans h.1.tape, hg.output.trans h.1.output, Nat.le_trans h.1.size hg.size, fun k hk hne => ?_⟩, (hg.block r hr hn.symm).trans h.2⟩
  refine (hg.block k (Nat.lt_of_lt_of_le hk h.1.size) (fun e => ?_)).trans (h.1.block k hk hne)
  have := (World.ownsRow.lt ho k e.symm).1
  omega
/-- the reader as the document has it -/
theorem pair_one {x : ByteArray} {u : Value} (hu : u.oneCell' = true) : ∀ y ∈ [Value.string x, u], y.oneCell' = true := by
  intro y hy
  simp at hy
  rcases hy with rfl | rfl
  · rfl
  · exact hu

/-- so many entries, one behind the other, or till the error -/
def listR {α : Type} (f : ByteArray → Nat → α × ByteArray × Nat) : Nat → ByteArray → Nat → List α × ByteArray × Nat
  | 0, L, e => ([], L, e)
  | c + 1, L, e => if e ≠ 0 then ([], L, e) else ((f L e).1 :: (listR f c (f L e).2.1 (f L e).2.2).1, (listR f c (f L e).2.1 (f L e).2.2).2)
theorem listR_err {α : Type} (f : ByteArray → Nat → α × ByteArray × Nat) (c : Nat) (L : ByteArray) (e : Nat) (h : e ≠ 0) : listR f c L e = ([], L, e) := by
  cases c with
  | zero => rfl
  | succ c => rw [listR, if_pos h]
theorem listR_next {α : Type} (f : ByteArray → Nat → α × ByteArray × Nat) (c : Nat) (L : ByteArray) : listR f (c + 1) L 0 = ((f L 0).1 :: (listR f c (f L 0).2.1 (f L 0).2.2).1, (listR f c (f L 0).2.1 (f L 0).2.2).2) := by
  rw [listR, if_neg (by simp)]
/-- where the loop stands: what was read, how many are still to come, what is left -/
structure Lat {α : Type} (f : ByteArray → Nat → α × ByteArray × Nat) (C : Nat) (L0 : ByteArray) (e0 : Nat) (pre : List α) (c : Nat) (L : ByteArray) (e : Nat) : Prop where
  same : listR f C L0 e0 = (pre ++ (listR f c L e).1, (listR f c L e).2)
  less : L.size ≤ L0.size
  many : e = 0 → pre.length + L.size ≤ L0.size
theorem Lat.start {α : Type} (f : ByteArray → Nat → α × ByteArray × Nat) (C : Nat) (L0 : ByteArray) (e0 : Nat) : Lat f C L0 e0 [] C L0 e0 := ⟨rfl, Nat.le_refl _, fun _ => by simp⟩
theorem Lat.next {α : Type} {f : ByteArray → Nat → α × ByteArray × Nat} (hf : ∀ L e, (f L e).2.1.size ≤ L.size) (hf0 : ∀ L, (f L 0).2.2 = 0 → (f L 0).2.1.size + 1 ≤ L.size) {C : Nat} {L0 : ByteArray} {e0 : Nat} {pre : List α} {c : Nat} {L : ByteArray} (h : Lat f C L0 e0 pre (c + 1) L 0) :
    Lat f C L0 e0 (pre ++ [(f L 0).1]) c (f L 0).2.1 (f L 0).2.2 := by
  refine ⟨?_, Nat.le_trans (hf L 0) h.less, fun he => ?_⟩
  · rw [h.same, listR_next]
    simp
  · have h1 := h.many rfl
    have h2 := hf0 L he
    rw [List.length_append]
    show pre.length + 1 + _ ≤ _
    omega
theorem Lat.done {α : Type} {f : ByteArray → Nat → α × ByteArray × Nat} {C : Nat} {L0 : ByteArray} {e0 : Nat} {pre : List α} {L : ByteArray} {e : Nat} (h : Lat f C L0 e0 pre 0 L e) : listR f C L0 e0 = (pre, L, e) := by
  rw [h.same]
  simp [listR]
theorem Lat.err {α : Type} {f : ByteArray → Nat → α × ByteArray × Nat} {C : Nat} {L0 : ByteArray} {e0 : Nat} {pre : List α} {c : Nat} {L : ByteArray} {e : Nat} (h : Lat f C L0 e0 pre c L e) (he : e ≠ 0) : listR f C L0 e0 = (pre, L, e) := by
  rw [h.same, listR_err f c L e he]
  simp

theorem textR_lt (L : ByteArray) (most : Int) (h : (textR L 0 most).2.2 = 0) : (textR L 0 most).2.1.size + 1 ≤ L.size := by
  unfold textR at *
  rw [if_neg (by simp)] at h ⊢
  rcases scan_cases L with ⟨n, k, hsc, _, h0, _, hks, _, _⟩ | ⟨er, hsc, h0, _, _⟩
  · by_cases h1 : most < 0 ∨ most < (n : Int)
    · rw [textOf_long hsc h1] at h; simp at h
    · by_cases h2 : L.size - k < n
      · rw [textOf_short hsc h1 h2] at h; simp at h
      · rw [textOf_ok hsc h1 h2]
        show (L.extract (k + n) L.size).size + 1 ≤ _
        rw [ByteArray.size_extract]
        omega
  · rw [textOf_bad most hsc h0] at h
    exact absurd h h0
theorem textR_keeps (L : ByteArray) (e : Nat) (most : Int) (h : e ≠ 0) : textR L e most = (⟨#[]⟩, L, e) := by unfold textR; rw [if_pos h]
theorem shortR_keeps (L : ByteArray) (e : Nat) (h : e ≠ 0) : shortR L e = (0, L, e) := by unfold shortR; rw [if_pos h]
theorem itemR_le (L : ByteArray) (e : Nat) : (itemR L e).2.1.size ≤ L.size := Nat.le_trans (textR_le _ _ _) (textR_le _ _ _)
theorem kidR_le (L : ByteArray) (e : Nat) : (kidR L e).2.1.size ≤ L.size := Nat.le_trans (shortR_le _ _) (textR_le _ _ _)
theorem itemR_ok {L : ByteArray} (h : (itemR L 0).2.2 = 0) : (textR L 0 272).2.2 = 0 := by
  by_cases h0 : (textR L 0 272).2.2 = 0
  · exact h0
  · have e : (itemR L 0).2.2 = (textR (textR L 0 272).2.1 (textR L 0 272).2.2 160).2.2 := rfl
    rw [e, textR_keeps _ _ _ h0] at h
    exact absurd h h0
theorem kidR_ok {L : ByteArray} (h : (kidR L 0).2.2 = 0) : (textR L 0 272).2.2 = 0 := by
  by_cases h0 : (textR L 0 272).2.2 = 0
  · exact h0
  · have e : (kidR L 0).2.2 = (shortR (textR L 0 272).2.1 (textR L 0 272).2.2).2.2 := rfl
    rw [e, shortR_keeps _ _ h0] at h
    exact absurd h h0
theorem itemR_lt (L : ByteArray) (h : (itemR L 0).2.2 = 0) : (itemR L 0).2.1.size + 1 ≤ L.size := by
  have h0 := itemR_ok h
  have h1 := textR_lt L 272 h0
  have h2 : (itemR L 0).2.1.size ≤ (textR L 0 272).2.1.size := textR_le _ _ _
  omega
theorem kidR_lt (L : ByteArray) (h : (kidR L 0).2.2 = 0) : (kidR L 0).2.1.size + 1 ≤ L.size := by
  have h0 := kidR_ok h
  have h1 := textR_lt L 272 h0
  have h2 : (kidR L 0).2.1.size ≤ (textR L 0 272).2.1.size := shortR_le _ _
  omega
end Go.Proofs.YtdelobaiicoogaaGreatDoor.L6

/- Entries are read, as the program reads them. -/
namespace Go.Proofs.YtdelobaiicoogaaGreatDoor.L6
open Go.ChangeShapes Go.WideShapes Go.ChangeAt Go.RowKit

/-- how many, and the entries -/
def countR {α : Type} (f : ByteArray → Nat → α × ByteArray × Nat) (L : ByteArray) (e : Nat) : List α × ByteArray × Nat := listR f (shortR L e).1 (shortR L e).2.1 (shortR L e).2.2
theorem shortR_lt (L : ByteArray) (e : Nat) : (shortR L e).1 < 18446744073709551616 := by
  unfold shortR
  split
  · show (0 : Nat) < _
    decide
  · rcases scan_cases L with ⟨n, k, hsc, hn, _⟩ | ⟨er, hsc, _⟩
    · rw [hsc]; exact hn
    · rw [hsc]; show (0 : Nat) < _; decide

set_option maxRecDepth 10000 in
set_option maxHeartbeats 4000000 in
theorem entriesI_any (r e0 : Nat) (L0 : ByteArray) (w : World) (hr : Rd w r L0 e0) (hL : L0.size ≤ 1000000) :
    Calls Tryz.prog 207 #[.pointer (some ⟨r, 0, none⟩), .func (.func 208) #[] #[]] w fun x w' => ∃ a cap, x = .returned (.slice a (countR itemR L0 e0).1.length cap) ∧ OwnE Value.string 58 w.heap.size w' (.slice a (countR itemR L0 e0).1.length cap) (countR itemR L0 e0).1 ∧ Told w w' r (countR itemR L0 e0).2.1 (countR itemR L0 e0).2.2 := by
  have HR := hide hr
  have HC := hide (rshort_any r e0 L0 w hr hL)
  have hle := shortR_le L0 e0
  have hlt := shortR_lt L0 e0
  have HCR : Hid (countR itemR L0 e0 = listR itemR (shortR L0 e0).1 (shortR L0 e0).2.1 (shortR L0 e0).2.2) := rfl
  clear hr
  go_enter Tryz.func207, Tryz.ntmps207
  go_wp2_with fail
  refine (unhide HC).mono ?_
  rintro x w1 ⟨rfl, ht⟩
  have HT := hide ht
  clear ht HC
  generalize shortR L0 e0 = S at *
  obtain ⟨C, L1, e1⟩ := S
  simp only at hle hlt HT HCR ⊢
  go_wp2
  go_loopw [5, 6] (fun v t wr => ∃ (c : Nat) (pre : List It) (L : ByteArray) (e : Nat), t = .int .u64 c ∧ c ≤ C ∧ Lat itemR C L1 e1 pre c L e ∧ OwnE Value.string 58 w.heap.size wr v pre ∧ Told w wr r L e) (fun _ t _ => (intOf t).toNat)
  case atStart => exact ⟨C, [], L1, e1, rfl, Nat.le_refl _, Lat.start _ _ _ _, OwnE.nil _ _ _ _, unhide HT⟩
  case round =>
    obtain ⟨c, pre, L, e, rfl, hc, hlat, hown, htold⟩ := hrel
    have HLat := hide hlat
    have HO := hide hown
    have HTo := hide htold
    obtain ⟨a, cap, rfl⟩ := hown.form
    clear hlat hown htold
    by_cases h0 : c = 0
    · subst h0
      have HD := hide (unhide HLat).done
      go_wp2
      go_ret
      have e := (unhide HCR).trans (unhide HD)
      rw [e]
      exact ⟨a, cap, rfl, unhide HO, unhide HTo⟩
    · have hp : 0 < c := by omega
      clear h0
      go_wp2_with fail
      refine (err_any r e L wr (unhide HTo).2).mono ?_
      rintro x w3 ⟨rfl, hw⟩
      have hw := hw.symm
      subst hw
      by_cases he : e = 0
      · subst he
        have hsz := (unhide HLat).many rfl
        have hls := (unhide HLat).less
        obtain ⟨c', rfl⟩ : ∃ c', c = c' + 1 := ⟨c - 1, by omega⟩
        have HN := hide ((unhide HLat).next itemR_le itemR_lt)
        go_wp2_with fail
        refine (readItem_any r 0 L _ (unhide HTo).2 (by omega)).mono ?_
        rintro x w4 ⟨rfl, ht⟩
        have HO4 := hide ((unhide HO).told (by decide) (unhide HTo).2 ht)
        have HT4 := hide ((unhide HTo).then ht)
        clear ht
        have hB : w.heap.size ≤ w4.heap.size := (unhide HT4).1.size
        have hwr : IntKind.u64.wrap ((c' : Int) + 1 - 1) = (c' : Int) := by rw [IntKind.wrap_u64]; omega
        go_wp2_with (at_builtin; refine app_gen (news := [.string (itemR L 0).1.1, .string (itemR L 0).1.2]) Tryz.underlying35 info58 rfl (by decide) rfl _ _ rfl rfl rfl (unhide HO4) hB rfl ?_ ?_ ?_ ?_; (exact pair_one rfl); omega; omega; intro a' cap' w5 ho' hg' _; have HO5 := hide (OwnE.snoc (sv := Value.string) (x := (itemR L 0).1) ho'); have HT5 := hide ((unhide HT4).app (by decide) (unhide HO4) (Nat.le_refl _) hg'); clear ho' hg')
        go_roundw
        case rel => exact ⟨c', pre ++ [(itemR L 0).1], (itemR L 0).2.1, (itemR L 0).2.2, by go_num, by omega, unhide HN, unhide HO5, unhide HT5⟩
        case measure => first | (simp [intOf]; done) | (simp [intOf]; omega)
      · have HD := hide ((unhide HLat).err he)
        have f0 : ((e : Int) == 0) = false := beq_eq_false_iff_ne.2 (by omega)
        clear he
        go_wp2
        go_ret
        have e' := (unhide HCR).trans (unhide HD)
        rw [e']
        exact ⟨a, cap, rfl, unhide HO, unhide HTo⟩

set_option maxRecDepth 10000 in
set_option maxHeartbeats 4000000 in
theorem entriesK_any (r e0 : Nat) (L0 : ByteArray) (w : World) (hr : Rd w r L0 e0) (hL : L0.size ≤ 1000000) :
    Calls Tryz.prog 209 #[.pointer (some ⟨r, 0, none⟩), .func (.func 210) #[] #[]] w fun x w' => ∃ a cap, x = .returned (.slice a (countR kidR L0 e0).1.length cap) ∧ OwnE kv 76 w.heap.size w' (.slice a (countR kidR L0 e0).1.length cap) (countR kidR L0 e0).1 ∧ Told w w' r (countR kidR L0 e0).2.1 (countR kidR L0 e0).2.2 := by
  have HR := hide hr
  have HC := hide (rshort_any r e0 L0 w hr hL)
  have hle := shortR_le L0 e0
  have hlt := shortR_lt L0 e0
  have HCR : Hid (countR kidR L0 e0 = listR kidR (shortR L0 e0).1 (shortR L0 e0).2.1 (shortR L0 e0).2.2) := rfl
  clear hr
  go_enter Tryz.func209, Tryz.ntmps209
  go_wp2_with fail
  refine (unhide HC).mono ?_
  rintro x w1 ⟨rfl, ht⟩
  have HT := hide ht
  clear ht HC
  generalize shortR L0 e0 = S at *
  obtain ⟨C, L1, e1⟩ := S
  simp only at hle hlt HT HCR ⊢
  go_wp2
  go_loopw [5, 6] (fun v t wr => ∃ (c : Nat) (pre : List Kd) (L : ByteArray) (e : Nat), t = .int .u64 c ∧ c ≤ C ∧ Lat kidR C L1 e1 pre c L e ∧ OwnE kv 76 w.heap.size wr v pre ∧ Told w wr r L e) (fun _ t _ => (intOf t).toNat)
  case atStart => exact ⟨C, [], L1, e1, rfl, Nat.le_refl _, Lat.start _ _ _ _, OwnE.nil _ _ _ _, unhide HT⟩
  case round =>
    obtain ⟨c, pre, L, e, rfl, hc, hlat, hown, htold⟩ := hrel
    have HLat := hide hlat
    have HO := hide hown
    have HTo := hide htold
    obtain ⟨a, cap, rfl⟩ := hown.form
    clear hlat hown htold
    by_cases h0 : c = 0
    · subst h0
      have HD := hide (unhide HLat).done
      go_wp2
      go_ret
      have e := (unhide HCR).trans (unhide HD)
      rw [e]
      exact ⟨a, cap, rfl, unhide HO, unhide HTo⟩
    · have hp : 0 < c := by omega
      clear h0
      go_wp2_with fail
      refine (err_any r e L wr (unhide HTo).2).mono ?_
      rintro x w3 ⟨rfl, hw⟩
      have hw := hw.symm
      subst hw
      by_cases he : e = 0
      · subst he
        have hsz := (unhide HLat).many rfl
        have hls := (unhide HLat).less
        obtain ⟨c', rfl⟩ : ∃ c', c = c' + 1 := ⟨c - 1, by omega⟩
        have HN := hide ((unhide HLat).next kidR_le kidR_lt)
        go_wp2_with fail
        refine (readKid_any r 0 L _ (unhide HTo).2 (by omega)).mono ?_
        rintro x w4 ⟨rfl, ht⟩
        have HO4 := hide ((unhide HO).told (by decide) (unhide HTo).2 ht)
        have HT4 := hide ((unhide HTo).then ht)
        clear ht
        have hB : w.heap.size ≤ w4.heap.size := (unhide HT4).1.size
        have hwr : IntKind.u64.wrap ((c' : Int) + 1 - 1) = (c' : Int) := by rw [IntKind.wrap_u64]; omega
        go_wp2_with (at_builtin; refine app_gen (news := [.string (kidR L 0).1.1, .int .i64 (kidR L 0).1.2]) Tryz.underlying36 info76 rfl (by decide) rfl _ _ rfl rfl rfl (unhide HO4) hB rfl ?_ ?_ ?_ ?_; (exact pair_one rfl); omega; omega; intro a' cap' w5 ho' hg' _; have HO5 := hide (OwnE.snoc (sv := kv) (x := (kidR L 0).1) ho'); have HT5 := hide ((unhide HT4).app (by decide) (unhide HO4) (Nat.le_refl _) hg'); clear ho' hg')
        go_roundw
        case rel => exact ⟨c', pre ++ [(kidR L 0).1], (kidR L 0).2.1, (kidR L 0).2.2, by go_num, by omega, unhide HN, unhide HO5, unhide HT5⟩
        case measure => first | (simp [intOf]; done) | (simp [intOf]; omega)
      · have HD := hide ((unhide HLat).err he)
        have f0 : ((e : Int) == 0) = false := beq_eq_false_iff_ne.2 (by omega)
        clear he
        go_wp2
        go_ret
        have e' := (unhide HCR).trans (unhide HD)
        rw [e']
        exact ⟨a, cap, rfl, unhide HO, unhide HTo⟩
end Go.Proofs.YtdelobaiicoogaaGreatDoor.L6

/- A node is read, as the program reads it. -/
namespace Go.Proofs.YtdelobaiicoogaaGreatDoor.L6
open Go.ChangeShapes Go.WideShapes Go.ChangeAt Go.RowKit

/-- a node's block: a bool and two slices -/
def Nblk (w : World) (p : Nat) (L : Bool) (ai : Option Addr) (il ci : Nat) (ak : Option Addr) (kl ck : Nat) : Prop := w.heap[p]? = some (.cells #[.bool L, .slice ai il ci, .slice ak kl ck] 38 (0, 0))
variable {w w' : World} {p : Nat} {L : Bool} {ai ak : Option Addr} {il ci kl ck : Nat}
theorem Nblk.cell0 (h : Nblk w p L ai il ci ak kl ck) : w.cell? ⟨p, 0, none⟩ = some (.bool L) := by unfold Nblk at h; simp [World.cell?, h]
theorem Nblk.cell1 (h : Nblk w p L ai il ci ak kl ck) : w.cell? ⟨p, 1, none⟩ = some (.slice ai il ci) := by unfold Nblk at h; simp [World.cell?, h]
theorem Nblk.cell2 (h : Nblk w p L ai il ci ak kl ck) : w.cell? ⟨p, 2, none⟩ = some (.slice ak kl ck) := by unfold Nblk at h; simp [World.cell?, h]
theorem Nblk.free (h : Nblk w p L ai il ci ak kl ck) (j : Nat) : w.frozen? ⟨p, j, none⟩ = false := by unfold Nblk at h; simp [World.frozen?, h]
theorem Nblk.lt (h : Nblk w p L ai il ci ak kl ck) : p < w.heap.size := lt_of_block h
theorem Nblk.set0 (h : Nblk w p L ai il ci ak kl ck) (L' : Bool) : Nblk (w.setCell ⟨p, 0, none⟩ (.bool L')) p L' ai il ci ak kl ck := by unfold Nblk at *; simp [World.setCell, Array.getElem?_modify, h]
theorem Nblk.set1 (h : Nblk w p L ai il ci ak kl ck) (a : Option Addr) (n c : Nat) : Nblk (w.setCell ⟨p, 1, none⟩ (.slice a n c)) p L a n c ak kl ck := by unfold Nblk at *; simp [World.setCell, Array.getElem?_modify, h]
theorem Nblk.set2 (h : Nblk w p L ai il ci ak kl ck) (a : Option Addr) (n c : Nat) : Nblk (w.setCell ⟨p, 2, none⟩ (.slice a n c)) p L ai il ci a n c := by unfold Nblk at *; simp [World.setCell, Array.getElem?_modify, h]
theorem Nblk.new (w : World) (L : Bool) (ai ak : Option Addr) (il ci kl ck : Nat) : Nblk (w.alloc (.cells #[.bool L, .slice ai il ci, .slice ak kl ck] 38)) w.heap.size L ai il ci ak kl ck := heap_alloc_new w _
theorem Nblk.below (h : Nblk w p L ai il ci ak kl ck) (hb : Below w.heap.size w w') : Nblk w' p L ai il ci ak kl ck := (hb.block p h.lt).trans h
theorem Nblk.told {r e : Nat} {M : ByteArray} (h : Nblk w p L ai il ci ak kl ck) (ht : Told w w' r M e) (hp : p ≠ r) : Nblk w' p L ai il ci ak kl ck := (ht.1.block p h.lt (fun e => hp (Option.some.inj e))).trans h
/-- no text stands in a node's block -/
theorem Nblk.no (h : Nblk w p L ai il ci ak kl ck) (j : Nat) (s : ByteArray) : w.cell? ⟨p, j, none⟩ ≠ some (.string s) := by
  intro e
  rcases j with _ | _ | _ | j
  · rw [h.cell0] at e; simp at e
  · rw [h.cell1] at e; simp at e
  · rw [h.cell2] at e; simp at e
  · unfold Nblk at h
    simp [World.cell?, h] at e
theorem Row.set {β : Type} {sv : β → Value} {a : Option Addr} {l : List (ByteArray × β)} (h : Row sv w a l) (hp : Nblk w p L ai il ci ak kl ck) (j : Nat) (u : Value) : Row sv (w.setCell ⟨p, j, none⟩ u) a l := by
  rcases h with h | ⟨b, off, e, hh⟩
  · exact .inl h
  · refine .inr ⟨b, off, e, fun i x hx => ?_⟩
    obtain ⟨c0, c1⟩ := hh i x hx
    have hb : b ≠ p := fun e => by subst e; exact hp.no _ _ c0
    exact ⟨(World.cell?_setCell_other w ⟨p, j, none⟩ ⟨b, off + i * 2, none⟩ u (fun e => hb (by injection e with e1 _ _; exact e1.symm))).trans c0, (World.cell?_setCell_other w ⟨p, j, none⟩ ⟨b, off + i * 2 + 1, none⟩ u (fun e => hb (by injection e with e1 _ _; exact e1.symm))).trans c1⟩
theorem Has.set {n : Nd} {bi bk : Option Addr} (h : Has w n bi bk) (hp : Nblk w p L ai il ci ak kl ck) (j : Nat) (u : Value) : Has (w.setCell ⟨p, j, none⟩ u) n bi bk := ⟨h.1.set hp j u, h.2.set hp j u⟩
/-- a node is stored in a node's block -/
theorem Nblk.store (h : Nblk w p L ai il ci ak kl ck) (L' : Bool) (a : Option Addr) (n c : Nat) (a2 : Option Addr) (n2 c2 : Nat) {m : Nd} {bi bk : Option Addr} (hm : Has w m bi bk) :
    Nblk (((w.setCell ⟨p, 0, none⟩ (.bool L')).setCell ⟨p, 1, none⟩ (.slice a n c)).setCell ⟨p, 2, none⟩ (.slice a2 n2 c2)) p L' a n c a2 n2 c2 ∧ Has (((w.setCell ⟨p, 0, none⟩ (.bool L')).setCell ⟨p, 1, none⟩ (.slice a n c)).setCell ⟨p, 2, none⟩ (.slice a2 n2 c2)) m bi bk :=
  ⟨((h.set0 L').set1 a n c).set2 a2 n2 c2, ((hm.set h 0 _).set (h.set0 L') 1 _).set ((h.set0 L').set1 a n c) 2 _⟩

/-- THE DOCUMENT's: what bytes seem to be the bytes of -/
def readN (S : ByteArray) : Nd × ByteArray × Nat :=
  if (byteR S 0).1 = 1 then (⟨true, (countR itemR (byteR S 0).2.1 (byteR S 0).2.2).1, []⟩, (countR itemR (byteR S 0).2.1 (byteR S 0).2.2).2)
  else if (byteR S 0).1 = 2 then (⟨false, [], (countR kidR (byteR S 0).2.1 (byteR S 0).2.2).1⟩, (countR kidR (byteR S 0).2.1 (byteR S 0).2.2).2)
  else (⟨false, [], []⟩, (byteR S 0).2)
theorem grown_store {a b : World} {r : Option Nat} (h : a.grownBy b r) (p j : Nat) (u : Value) (hp : a.heap.size ≤ p) : a.grownBy (b.setCell ⟨p, j, none⟩ u) r :=
  ⟨h.os, h.tape, h.output, by have := h.size; simpa [World.setCell] using this, fun k hk hne => (Below.heap_setCell _ ⟨p, j, none⟩ _ _ (show k ≠ p by omega)).trans (h.block k hk hne)⟩

end Go.Proofs.YtdelobaiicoogaaGreatDoor.L6
