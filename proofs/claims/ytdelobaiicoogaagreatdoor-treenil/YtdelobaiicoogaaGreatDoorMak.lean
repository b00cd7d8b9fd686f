/- Texts that the proof needs, one behind the other. -/
import Derived.Test.YtdelobaiicoogaaGreatDoorMaj
import Derived.Laws.OwnMore
/- Entries in a row of one's own. -/
namespace Go.Proofs.YtdelobaiicoogaaGreatDoor.L6
open Go.ChangeShapes Go.WideShapes Go.ChangeAt Go.RowKit

def pairs {β : Type} (sv : β → Value) (l : List (ByteArray × β)) : List Value := l.flatMap fun x => [Value.string x.1, sv x.2]
theorem pairs_length {β : Type} (sv : β → Value) (l : List (ByteArray × β)) : (pairs sv l).length = l.length * 2 := by
  induction l with
  | nil => rfl
  | cons x t ih =>
    have e : pairs sv (x :: t) = [Value.string x.1, sv x.2] ++ pairs sv t := rfl
    rw [e, List.length_append, ih, List.length_cons]
    simp
    omega
theorem pairs_append {β : Type} (sv : β → Value) (l r : List (ByteArray × β)) : pairs sv (l ++ r) = pairs sv l ++ pairs sv r := List.flatMap_append
theorem pairs_get {β : Type} (sv : β → Value) (l : List (ByteArray × β)) (i : Nat) (x : ByteArray × β) (h : l[i]? = some x) : (pairs sv l)[i * 2]? = some (.string x.1) ∧ (pairs sv l)[i * 2 + 1]? = some (sv x.2) := by
  induction l generalizing i with
  | nil => simp at h
  | cons y t ih =>
    have e : pairs sv (y :: t) = Value.string y.1 :: sv y.2 :: pairs sv t := rfl
    cases i with
    | zero =>
      simp at h
      subst h
      rw [e]
      exact ⟨rfl, rfl⟩
    | succ i =>
      have := ih i (by simpa using h)
      rw [e]
      have e1 : (i + 1) * 2 = i * 2 + 1 + 1 := by omega
      rw [e1]
      simpa using this
/-- entries of type T in a row of one's own -/
def OwnE {β : Type} (sv : β → Value) (T : TypeId) (B : Nat) (w : World) (v : Value) (l : List (ByteArray × β)) : Prop := w.ownsRow B T 2 v l.length (pairs sv l)
theorem OwnE.nil {β : Type} (sv : β → Value) (T : TypeId) (B : Nat) (w : World) : OwnE sv T B w (.slice none 0 0) [] := World.ownsRow_nil _ _ _ _
theorem OwnE.row {β : Type} {sv : β → Value} {T : TypeId} {B : Nat} {w : World} {a : Option Addr} {n cap : Nat} {l : List (ByteArray × β)} (h : OwnE sv T B w (.slice a n cap) l) : Row sv w a l := by
  have h' := h
  rcases h.2 with ⟨_, hn⟩ | ⟨g, cap', cur, e, _⟩
  · exact .inl (List.length_eq_zero_iff.1 hn)
  · injection e with e1 e2 e3
    subst e1 e2 e3
    refine .inr ⟨g, 0, rfl, fun i x hx => ?_⟩
    have hi : i < l.length := (List.getElem?_eq_some_iff.1 hx).1
    obtain ⟨p0, p1⟩ := pairs_get sv l i x hx
    rw [Nat.zero_add]
    exact ⟨(World.ownsRow.cellAt h' (i * 2) (by omega)).trans p0, (World.ownsRow.cellAt h' (i * 2 + 1) (by omega)).trans p1⟩
theorem OwnE.form {β : Type} {sv : β → Value} {T : TypeId} {B : Nat} {w : World} {v : Value} {l : List (ByteArray × β)} (h : OwnE sv T B w v l) : ∃ a cap, v = .slice a l.length cap := ownsRow_form h
theorem OwnE.below {β : Type} {sv : β → Value} {T : TypeId} {B : Nat} {w w' : World} {v : Value} {l : List (ByteArray × β)} (h : OwnE sv T B w v l) (hb : Below w.heap.size w w') : OwnE sv T B w' v l :=
  ownsRow_same h (fun g hg => hb.block g (World.ownsRow.lt h g hg).2)
theorem OwnE.base {β : Type} {sv : β → Value} {T : TypeId} {B B' : Nat} {w : World} {v : Value} {l : List (ByteArray × β)} (h : OwnE sv T B w v l) (hB : B' ≤ B) : OwnE sv T B' w v l := ownsRow_base h hB
theorem OwnE.snoc {β : Type} {sv : β → Value} {T : TypeId} {B : Nat} {w : World} {v : Value} {l : List (ByteArray × β)} {x : ByteArray × β} (h : w.ownsRow B T 2 v (l.length + 1) (pairs sv l ++ [.string x.1, sv x.2])) : OwnE sv T B w v (l ++ [x]) := by
  unfold OwnE
  rw [List.length_append, pairs_append]
  exact h
/-- a row isn't the block of another kind -/
theorem OwnE.other {β : Type} {sv : β → Value} {T : TypeId} {B : Nat} {w : World} {v : Value} {l : List (ByteArray × β)} (h : OwnE sv T B w v l) {r : Nat} {cs : Array Value} {t : TypeId} (hr : w.heap[r]? = some (.cells cs t (0, 0))) (ht : T ≠ t) : v.ownBlock ≠ some r := by
  intro e
  obtain ⟨cur, h0⟩ := ownsRow_kind h e
  rw [hr] at h0
  simp at h0
  exact ht h0.2.symm
theorem OwnE.told {β : Type} {sv : β → Value} {T : TypeId} (hT : T ≠ 334) {B : Nat} {w w' : World} {v : Value} {l : List (ByteArray × β)} {r e e' : Nat} {L L' : ByteArray} (h : OwnE sv T B w v l) (hr : Rd w r L e) (ht : Told w w' r L' e') : OwnE sv T B w' v l :=
  World.ownsRow.kept h ht.1 (.inr (h.other hr hT))
/-- behind an append to a row of one's own the reader is as it was -/
theorem Told.app {β : Type} {sv : β → Value} {T : TypeId} (hT : T ≠ 334) {B : Nat} {w w1 w2 : World} {v : Value} {l : List (ByteArray × β)} {r e : Nat} {L : ByteArray} (h : Told w w1 r L e) (ho : OwnE sv T B w1 v l) (hB : w.heap.size ≤ B) (hg : w1.grownBy w2 v.ownBlock) : Told w w2 r L e := by
  have hn := ho.other h.2 hT
  have hr := h.2.lt
  refine ⟨⟨hg.os.trans h.1.os, hg.tape.trans h.1.tape, hg.output.trans h.1.output, Nat.le_trans h.1.size hg.size, fun k hk hne => ?_⟩, (hg.block r hr hn.symm).trans h.2⟩
  refine (hg.block k (Nat.lt_of_lt_of_le hk h.1.size) (fun e => ?_)).trans (h.1.block k hk hne)
  have := (World.ownsRow.lt ho k e.symm).1
  omega
/-- the reader as the document has it -/
theorem pair_one {x : ByteArray} {u : Value} (hu : u.oneCell' = true) : ∀ y ∈ [Value.string x, u], y.oneCell' = true := by
  intro y hy
  simp at hy
  rcases hy with rfl | rfl
  · rfl
  · exact hu

/-- so many entries, one behind the other, or till the error -/
def listR {α : Type} (f : ByteArray → Nat → α × ByteArray × Nat) : Nat → ByteArray → Nat → List α × ByteArray × Nat
  | 0, L, e => ([], L, e)
  | c + 1, L, e => if e ≠ 0 then ([], L, e) else ((f L e).1 :: (listR f c (f L e).2.1 (f L e).2.2).1, (listR f c (f L e).2.1 (f L e).2.2).2)
theorem listR_err {α : Type} (f : ByteArray → Nat → α × ByteArray × Nat) (c : Nat) (L : ByteArray) (e : Nat) (h : e ≠ 0) : listR f c L e = ([], L, e) := by
  cases c with
  | zero => rfl
  | succ c => rw [listR, if_pos h]
theorem listR_next {α : Type} (f : ByteArray → Nat → α × ByteArray × Nat) (c : Nat) (L : ByteArray) : listR f (c + 1) L 0 = ((f L 0).1 :: (listR f c (f L 0).2.1 (f L 0).2.2).1, (listR f c (f L 0).2.1 (f L 0).2.2).2) := by
  rw [listR, if_neg (by simp)]
/-- where the loop stands: what was read, how many are still to come, what is left -/
structure Lat {α : Type} (f : ByteArray → Nat → α × ByteArray × Nat) (C : Nat) (L0 : ByteArray) (e0 : Nat) (pre : List α) (c : Nat) (L : ByteArray) (e : Nat) : Prop where
  same : listR f C L0 e0 = (pre ++ (listR f c L e).1, (listR f c L e).2)
  less : L.size ≤ L0.size
  many : e = 0 → pre.length + L.size ≤ L0.size
theorem Lat.start {α : Type} (f : ByteArray → Nat → α × ByteArray × Nat) (C : Nat) (L0 : ByteArray) (e0 : Nat) : Lat f C L0 e0 [] C L0 e0 := ⟨rfl, Nat.le_refl _, fun _ => by simp⟩
theorem Lat.next {α : Type} {f : ByteArray → Nat → α × ByteArray × Nat} (hf : ∀ L e, (f L e).2.1.size ≤ L.size) (hf0 : ∀ L, (f L 0).2.2 = 0 → (f L 0).2.1.size + 1 ≤ L.size) {C : Nat} {L0 : ByteArray} {e0 : Nat} {pre : List α} {c : Nat} {L : ByteArray} (h : Lat f C L0 e0 pre (c + 1) L 0) :
    Lat f C L0 e0 (pre ++ [(f L 0).1]) c (f L 0).2.1 (f L 0).2.2 := by
  refine ⟨?_, Nat.le_trans (hf L 0) h.less, fun he => ?_⟩
  · rw [h.same, listR_next]
    simp
  · have h1 := h.many rfl
    have h2 := hf0 L he
    rw [List.length_append]
    show pre.length + 1 + _ ≤ _
    omega
theorem Lat.done {α : Type} {f : ByteArray → Nat → α × ByteArray × Nat} {C : Nat} {L0 : ByteArray} {e0 : Nat} {pre : List α} {L : ByteArray} {e : Nat} (h : Lat f C L0 e0 pre 0 L e) : listR f C L0 e0 = (pre, L, e) := by
  rw [h.same]
  simp [listR]
theorem Lat.err {α : Type} {f : ByteArray → Nat → α × ByteArray × Nat} {C : Nat} {L0 : ByteArray} {e0 : Nat} {pre : List α} {c : Nat} {L : ByteArray} {e : Nat} (h : Lat f C L0 e0 pre c L e) (he : e ≠ 0) : listR f C L0 e0 = (pre, L, e) := by
  rw [h.same, listR_err f c L e he]
  simp

theorem textR_lt (L : ByteArray) (most : Int) (h : (textR L 0 most).2.2 = 0) : (textR L 0 most).2.1.size + 1 ≤ L.size := by
  unfold textR at *
  rw [if_neg (by simp)] at h ⊢
  rcases scan_cases L with ⟨n, k, hsc, _, h0, _, hks, _, _⟩ | ⟨er, hsc, h0, _, _⟩
  · by_cases h1 : most < 0 ∨ most < (n : Int)
    · rw [textOf_long hsc h1] at h; simp at h
    · by_cases h2 : L.size - k < n
      · rw [textOf_short hsc h1 h2] at h; simp at h
      · rw [textOf_ok hsc h1 h2]
        show (L.extract (k + n) L.size).size + 1 ≤ _
        rw [ByteArray.size_extract]
        omega
  · rw [textOf_bad most hsc h0] at h
    exact absurd h h0
theorem textR_keeps (L : ByteArray) (e : Nat) (most : Int) (h : e ≠ 0) : textR L e most = (⟨#[]⟩, L, e) := by unfold textR; rw [if_pos h]
theorem shortR_keeps (L : ByteArray) (e : Nat) (h : e ≠ 0) : shortR L e = (0, L, e) := by unfold shortR; rw [if_pos h]
theorem itemR_le (L : ByteArray) (e : Nat) : (itemR L e).2.1.size ≤ L.size := Nat.le_trans (textR_le _ _ _) (textR_le _ _ _)
theorem kidR_le (L : ByteArray) (e : Nat) : (kidR L e).2.1.size ≤ L.size := Nat.le_trans (shortR_le _ _) (textR_le _ _ _)
theorem itemR_ok {L : ByteArray} (h : (itemR L 0).2.2 = 0) : (textR L 0 272).2.2 = 0 := by
  by_cases h0 : (textR L 0 272).2.2 = 0
  · exact h0
  · have e : (itemR L 0).2.2 = (textR (textR L 0 272).2.1 (textR L 0 272).2.2 160).2.2 := rfl
    rw [e, textR_keeps _ _ _ h0] at h
    exact absurd h h0
theorem kidR_ok {L : ByteArray} (h : (kidR L 0).2.2 = 0) : (textR L 0 272).2.2 = 0 := by
  by_cases h0 : (textR L 0 272).2.2 = 0
  · exact h0
  · have e : (kidR L 0).2.2 = (shortR (textR L 0 272).2.1 (textR L 0 272).2.2).2.2 := rfl
    rw [e, shortR_keeps _ _ h0] at h
    exact absurd h h0
theorem itemR_lt (L : ByteArray) (h : (itemR L 0).2.2 = 0) : (itemR L 0).2.1.size + 1 ≤ L.size := by
  have h0 := itemR_ok h
  have h1 := textR_lt L 272 h0
  have h2 : (itemR L 0).2.1.size ≤ (textR L 0 272).2.1.size := textR_le _ _ _
  omega
theorem kidR_lt (L : ByteArray) (h : (kidR L 0).2.2 = 0) : (kidR L 0).2.1.size + 1 ≤ L.size := by
  have h0 := kidR_ok h
  have h1 := textR_lt L 272 h0
  have h2 : (kidR L 0).2.1.size ≤ (textR L 0 272).2.1.size := shortR_le _ _
  omega
end Go.Proofs.YtdelobaiicoogaaGreatDoor.L6

/- Entries are read, as the program reads them. -/
namespace Go.Proofs.YtdelobaiicoogaaGreatDoor.L6
open Go.ChangeShapes Go.WideShapes Go.ChangeAt Go.RowKit

/-- how many, and the entries -/
def countR {α : Type} (f : ByteArray → Nat → α × ByteArray × Nat) (L : ByteArray) (e : Nat) : List α × ByteArray × Nat := listR f (shortR L e).1 (shortR L e).2.1 (shortR L e).2.2
theorem shortR_lt (L : ByteArray) (e : Nat) : (shortR L e).1 < 18446744073709551616 := by
  unfold shortR
  split
  · show (0 : Nat) < _
    decide
  · rcases scan_cases L with ⟨n, k, hsc, hn, _⟩ | ⟨er, hsc, _⟩
    · rw [hsc]; exact hn
    · rw [hsc]; show (0 : Nat) < _; decide

set_option maxRecDepth 10000 in
set_option maxHeartbeats 4000000 in
theorem entriesI_any (r e0 : Nat) (L0 : ByteArray) (w : World) (hr : Rd w r L0 e0) (hL : L0.size ≤ 1000000) :
    Calls Tryz.prog 207 #[.pointer (some ⟨r, 0, none⟩), .func (.func 208) #[] #[]] w fun x w' => ∃ a cap, x = .returned (.slice a (countR itemR L0 e0).1.length cap) ∧ OwnE Value.string 58 w.heap.size w' (.slice a (countR itemR L0 e0).1.length cap) (countR itemR L0 e0).1 ∧ Told w w' r (countR itemR L0 e0).2.1 (countR itemR L0 e0).2.2 := by
  have HR := hide hr
  have HC := hide (rshort_any r e0 L0 w hr hL)
  have hle := shortR_le L0 e0
  have hlt := shortR_lt L0 e0
  have HCR : Hid (countR itemR L0 e0 = listR itemR (shortR L0 e0).1 (shortR L0 e0).2.1 (shortR L0 e0).2.2) := rfl
  clear hr
  go_enter Tryz.func207, Tryz.ntmps207
  go_wp2_with fail
  refine (unhide HC).mono ?_
  rintro x w1 ⟨rfl, ht⟩
  have HT := hide ht
  clear ht HC
  generalize shortR L0 e0 = S at *
  obtain ⟨C, L1, e1⟩ := S
  simp only at hle hlt HT HCR ⊢
  go_wp2
  go_loopw [5, 6] (fun v t wr => ∃ (c : Nat) (pre : List It) (L : ByteArray) (e : Nat), t = .int .u64 c ∧ c ≤ C ∧ Lat itemR C L1 e1 pre c L e ∧ OwnE Value.string 58 w.heap.size wr v pre ∧ Told w wr r L e) (fun _ t _ => (intOf t).toNat)
  case atStart => exact ⟨C, [], L1, e1, rfl, Nat.le_refl _, Lat.start _ _ _ _, OwnE.nil _ _ _ _, unhide HT⟩
  case round =>
    obtain ⟨c, pre, L, e, rfl, hc, hlat, hown, htold⟩ := hrel
    have HLat := hide hlat
    have HO := hide hown
    have HTo := hide htold
    obtain ⟨a, cap, rfl⟩ := hown.form
    clear hlat hown htold
    by_cases h0 : c = 0
    · subst h0
      have HD := hide (unhide HLat).done
      go_wp2
      go_ret
      have e := (unhide HCR).trans (unhide HD)
      rw [e]
      exact ⟨a, cap, rfl, unhide HO, unhide HTo⟩
    · have hp : 0 < c := by omega
      clear h0
      go_wp2_with fail
      refine (err_any r e L wr (unhide HTo).2).mono ?_
      rintro x w3 ⟨rfl, hw⟩
      have hw := hw.symm
      subst hw
      by_cases he : e = 0
      · subst he
        have hsz := (unhide HLat).many rfl
        have hls := (unhide HLat).less
        obtain ⟨c', rfl⟩ : ∃ c', c = c' + 1 := ⟨c - 1, by omega⟩
        have HN := hide ((unhide HLat).next itemR_le itemR_lt)
        go_wp2_with fail
        refine (readItem_any r 0 L _ (unhide HTo).2 (by omega)).mono ?_
        rintro x w4 ⟨rfl, ht⟩
        have HO4 := hide ((unhide HO).told (by decide) (unhide HTo).2 ht)
        have HT4 := hide ((unhide HTo).then ht)
        clear ht
        have hB : w.heap.size ≤ w4.heap.size := (unhide HT4).1.size
        have hwr : IntKind.u64.wrap ((c' : Int) + 1 - 1) = (c' : Int) := by rw [IntKind.wrap_u64]; omega
        go_wp2_with (at_builtin; refine app_gen (news := [.string (itemR L 0).1.1, .string (itemR L 0).1.2]) Tryz.underlying35 info58 rfl (by decide) rfl _ _ rfl rfl rfl (unhide HO4) hB rfl ?_ ?_ ?_ ?_; (exact pair_one rfl); omega; omega; intro a' cap' w5 ho' hg' _; have HO5 := hide (OwnE.snoc (sv := Value.string) (x := (itemR L 0).1) ho'); have HT5 := hide ((unhide HT4).app (by decide) (unhide HO4) (Nat.le_refl _) hg'); clear ho' hg')
        go_roundw
        case rel => exact ⟨c', pre ++ [(itemR L 0).1], (itemR L 0).2.1, (itemR L 0).2.2, by go_num, by omega, unhide HN, unhide HO5, unhide HT5⟩
        case measure => first | (simp [intOf]; done) | (simp [intOf]; omega)
      · have HD := hide ((unhide HLat).err he)
        have f0 : ((e : Int) == 0) = false := beq_eq_false_iff_ne.2 (by omega)
        clear he
        go_wp2
        go_ret
        have e' := (unhide HCR).trans (unhide HD)
        rw [e']
        exact ⟨a, cap, rfl, unhide HO, unhide HTo⟩

set_option maxRecDepth 10000 in
set_option maxHeartbeats 4000000 in
theorem entriesK_any (r e0 : Nat) (L0 : ByteArray) (w : World) (hr : Rd w r L0 e0) (hL : L0.size ≤ 1000000) :
    Calls Tryz.prog 209 #[.pointer (some ⟨r, 0, none⟩), .func (.func 210) #[] #[]] w fun x w' => ∃ a cap, x = .returned (.slice a (countR kidR L0 e0).1.length cap) ∧ OwnE kv 76 w.heap.size w' (.slice a (countR kidR L0 e0).1.length cap) (countR kidR L0 e0).1 ∧ Told w w' r (countR kidR L0 e0).2.1 (countR kidR L0 e0).2.2 := by
  have HR := hide hr
  have HC := hide (rshort_any r e0 L0 w hr hL)
  have hle := shortR_le L0 e0
  have hlt := shortR_lt L0 e0
  have HCR : Hid (countR kidR L0 e0 = listR kidR (shortR L0 e0).1 (shortR L0 e0).2.1 (shortR L0 e0).2.2) := rfl
  clear hr
  go_enter Tryz.func209, Tryz.ntmps209
  go_wp2_with fail
  refine (unhide HC).mono ?_
  rintro x w1 ⟨rfl, ht⟩
  have HT := hide ht
  clear ht HC
  generalize shortR L0 e0 = S at *
  obtain ⟨C, L1, e1⟩ := S
  simp only at hle hlt HT HCR ⊢
  go_wp2
  go_loopw [5, 6] (fun v t wr => ∃ (c : Nat) (pre : List Kd) (L : ByteArray) (e : Nat), t = .int .u64 c ∧ c ≤ C ∧ Lat kidR C L1 e1 pre c L e ∧ OwnE kv 76 w.heap.size wr v pre ∧ Told w wr r L e) (fun _ t _ => (intOf t).toNat)
  case atStart => exact ⟨C, [], L1, e1, rfl, Nat.le_refl _, Lat.start _ _ _ _, OwnE.nil _ _ _ _, unhide HT⟩
  case round =>
    obtain ⟨c, pre, L, e, rfl, hc, hlat, hown, htold⟩ := hrel
    have HLat := hide hlat
    have HO := hide hown
    have HTo := hide htold
    obtain ⟨a, cap, rfl⟩ := hown.form
    clear hlat hown htold
    by_cases h0 : c = 0
    · subst h0
      have HD := hide (unhide HLat).done
      go_wp2
      go_ret
      have e := (unhide HCR).trans (unhide HD)
      rw [e]
      exact ⟨a, cap, rfl, unhide HO, unhide HTo⟩
    · have hp : 0 < c := by omega
      clear h0
      go_wp2_with fail
      refine (err_any r e L wr (unhide HTo).2).mono ?_
      rintro x w3 ⟨rfl, hw⟩
      have hw := hw.symm
      subst hw
      by_cases he : e = 0
      · subst he
        have hsz := (unhide HLat).many rfl
        have hls := (unhide HLat).less
        obtain ⟨c', rfl⟩ : ∃ c', c = c' + 1 := ⟨c - 1, by omega⟩
        have HN := hide ((unhide HLat).next kidR_le kidR_lt)
        go_wp2_with fail
        refine (readKid_any r 0 L _ (unhide HTo).2 (by omega)).mono ?_
        rintro x w4 ⟨rfl, ht⟩
        have HO4 := hide ((unhide HO).told (by decide) (unhide HTo).2 ht)
        have HT4 := hide ((unhide HTo).then ht)
        clear ht
        have hB : w.heap.size ≤ w4.heap.size := (unhide HT4).1.size
        have hwr : IntKind.u64.wrap ((c' : Int) + 1 - 1) = (c' : Int) := by rw [IntKind.wrap_u64]; omega
        go_wp2_with (at_builtin; refine app_gen (news := [.string (kidR L 0).1.1, .int .i64 (kidR L 0).1.2]) Tryz.underlying36 info76 rfl (by decide) rfl _ _ rfl rfl rfl (unhide HO4) hB rfl ?_ ?_ ?_ ?_; (exact pair_one rfl); omega; omega; intro a' cap' w5 ho' hg' _; have HO5 := hide (OwnE.snoc (sv := kv) (x := (kidR L 0).1) ho'); have HT5 := hide ((unhide HT4).app (by decide) (unhide HO4) (Nat.le_refl _) hg'); clear ho' hg')
        go_roundw
        case rel => exact ⟨c', pre ++ [(kidR L 0).1], (kidR L 0).2.1, (kidR L 0).2.2, by go_num, by omega, unhide HN, unhide HO5, unhide HT5⟩
        case measure => first | (simp [intOf]; done) | (simp [intOf]; omega)
      · have HD := hide ((unhide HLat).err he)
        have f0 : ((e : Int) == 0) = false := beq_eq_false_iff_ne.2 (by omega)
        clear he
        go_wp2
        go_ret
        have e' := (unhide HCR).trans (unhide HD)
        rw [e']
        exact ⟨a, cap, rfl, unhide HO, unhide HTo⟩
end Go.Proofs.YtdelobaiicoogaaGreatDoor.L6

/- A node is read, as the program reads it. -/
namespace Go.Proofs.YtdelobaiicoogaaGreatDoor.L6
open Go.ChangeShapes Go.WideShapes Go.ChangeAt Go.RowKit

/-- a node's block: a bool and two slices -/
def Nblk (w : World) (p : Nat) (L : Bool) (ai : Option Addr) (il ci : Nat) (ak : Option Addr) (kl ck : Nat) : Prop := w.heap[p]? = some (.cells #[.bool L, .slice ai il ci, .slice ak kl ck] 38 (0, 0))
variable {w w' : World} {p : Nat} {L : Bool} {ai ak : Option Addr} {il ci kl ck : Nat}
theorem Nblk.cell0 (h : Nblk w p L ai il ci ak kl ck) : w.cell? ⟨p, 0, none⟩ = some (.bool L) := by unfold Nblk at h; simp [World.cell?, h]
theorem Nblk.cell1 (h : Nblk w p L ai il ci ak kl ck) : w.cell? ⟨p, 1, none⟩ = some (.slice ai il ci) := by unfold Nblk at h; simp [World.cell?, h]
theorem Nblk.cell2 (h : Nblk w p L ai il ci ak kl ck) : w.cell? ⟨p, 2, none⟩ = some (.slice ak kl ck) := by unfold Nblk at h; simp [World.cell?, h]
theorem Nblk.free (h : Nblk w p L ai il ci ak kl ck) (j : Nat) : w.frozen? ⟨p, j, none⟩ = false := by unfold Nblk at h; simp [World.frozen?, h]
theorem Nblk.lt (h : Nblk w p L ai il ci ak kl ck) : p < w.heap.size := lt_of_block h
theorem Nblk.set0 (h : Nblk w p L ai il ci ak kl ck) (L' : Bool) : Nblk (w.setCell ⟨p, 0, none⟩ (.bool L')) p L' ai il ci ak kl ck := by unfold Nblk at *; simp [World.setCell, Array.getElem?_modify, h]
theorem Nblk.set1 (h : Nblk w p L ai il ci ak kl ck) (a : Option Addr) (n c : Nat) : Nblk (w.setCell ⟨p, 1, none⟩ (.slice a n c)) p L a n c ak kl ck := by unfold Nblk at *; simp [World.setCell, Array.getElem?_modify, h]
theorem Nblk.set2 (h : Nblk w p L ai il ci ak kl ck) (a : Option Addr) (n c : Nat) : Nblk (w.setCell ⟨p, 2, none⟩ (.slice a n c)) p L ai il ci a n c := by unfold Nblk at *; simp [World.setCell, Array.getElem?_modify, h]
theorem Nblk.new (w : World) (L : Bool) (ai ak : Option Addr) (il ci kl ck : Nat) : Nblk (w.alloc (.cells #[.bool L, .slice ai il ci, .slice ak kl ck] 38)) w.heap.size L ai il ci ak kl ck := heap_alloc_new w _
theorem Nblk.below (h : Nblk w p L ai il ci ak kl ck) (hb : Below w.heap.size w w') : Nblk w' p L ai il ci ak kl ck := (hb.block p h.lt).trans h
theorem Nblk.told {r e : Nat} {M : ByteArray} (h : Nblk w p L ai il ci ak kl ck) (ht : Told w w' r M e) (hp : p ≠ r) : Nblk w' p L ai il ci ak kl ck := (ht.1.block p h.lt (fun e => hp (Option.some.inj e))).trans h
/-- no text stands in a node's block -/
theorem Nblk.no (h : Nblk w p L ai il ci ak kl ck) (j : Nat) (s : ByteArray) : w.cell? ⟨p, j, none⟩ ≠ some (.string s) := by
  intro e
  rcases j with _ | _ | _ | j
  · rw [h.cell0] at e; simp at e
  · rw [h.cell1] at e; simp at e
  · rw [h.cell2] at e; simp at e
  · unfold Nblk at h
    simp [World.cell?, h] at e
theorem Row.set {β : Type} {sv : β → Value} {a : Option Addr} {l : List (ByteArray × β)} (h : Row sv w a l) (hp : Nblk w p L ai il ci ak kl ck) (j : Nat) (u : Value) : Row sv (w.setCell ⟨p, j, none⟩ u) a l := by
  rcases h with h | ⟨b, off, e, hh⟩
  · exact .inl h
  · refine .inr ⟨b, off, e, fun i x hx => ?_⟩
    obtain ⟨c0, c1⟩ := hh i x hx
    have hb : b ≠ p := fun e => by subst e; exact hp.no _ _ c0
    exact ⟨(World.cell?_setCell_other w ⟨p, j, none⟩ ⟨b, off + i * 2, none⟩ u (fun e => hb (by injection e with e1 _ _; exact e1.symm))).trans c0, (World.cell?_setCell_other w ⟨p, j, none⟩ ⟨b, off + i * 2 + 1, none⟩ u (fun e => hb (by injection e with e1 _ _; exact e1.symm))).trans c1⟩
theorem Has.set {n : Nd} {bi bk : Option Addr} (h : Has w n bi bk) (hp : Nblk w p L ai il ci ak kl ck) (j : Nat) (u : Value) : Has (w.setCell ⟨p, j, none⟩ u) n bi bk := ⟨h.1.set hp j u, h.2.set hp j u⟩
/-- a node is stored in a node's block -/
theorem Nblk.store (h : Nblk w p L ai il ci ak kl ck) (L' : Bool) (a : Option Addr) (n c : Nat) (a2 : Option Addr) (n2 c2 : Nat) {m : Nd} {bi bk : Option Addr} (hm : Has w m bi bk) :
    Nblk (((w.setCell ⟨p, 0, none⟩ (.bool L')).setCell ⟨p, 1, none⟩ (.slice a n c)).setCell ⟨p, 2, none⟩ (.slice a2 n2 c2)) p L' a n c a2 n2 c2 ∧ Has (((w.setCell ⟨p, 0, none⟩ (.bool L')).setCell ⟨p, 1, none⟩ (.slice a n c)).setCell ⟨p, 2, none⟩ (.slice a2 n2 c2)) m bi bk :=
  ⟨((h.set0 L').set1 a n c).set2 a2 n2 c2, ((hm.set h 0 _).set (h.set0 L') 1 _).set ((h.set0 L').set1 a n c) 2 _⟩

/-- THE DOCUMENT's: what bytes seem to be the bytes of -/
def readN (S : ByteArray) : Nd × ByteArray × Nat :=
  if (byteR S 0).1 = 1 then (⟨true, (countR itemR (byteR S 0).2.1 (byteR S 0).2.2).1, []⟩, (countR itemR (byteR S 0).2.1 (byteR S 0).2.2).2)
  else if (byteR S 0).1 = 2 then (⟨false, [], (countR kidR (byteR S 0).2.1 (byteR S 0).2.2).1⟩, (countR kidR (byteR S 0).2.1 (byteR S 0).2.2).2)
  else (⟨false, [], []⟩, (byteR S 0).2)
def ReadSaid (n : Nd) (w : World) (x : Ending) (w' : World) (r : Nat) : Prop := ∃ (ai ak : Option Addr) (ci ck : Nat), x = .returned (.agg #[.bool n.leaf, .slice ai n.its.length ci, .slice ak n.kds.length ck]) ∧ Has w' n ai ak ∧ w.grownBy w' (some r)
theorem grown_store {a b : World} {r : Option Nat} (h : a.grownBy b r) (p j : Nat) (u : Value) (hp : a.heap.size ≤ p) : a.grownBy (b.setCell ⟨p, j, none⟩ u) r :=
  ⟨h.os, h.tape, h.output, by have := h.size; simpa [World.setCell] using this, fun k hk hne => (Below.heap_setCell _ ⟨p, j, none⟩ _ _ (show k ≠ p by omega)).trans (h.block k hk hne)⟩

set_option maxRecDepth 10000 in
set_option maxHeartbeats 2000000 in
theorem read_node (r : Nat) (S : ByteArray) (w : World) (hr : Rd w r S 0) (hL : S.size ≤ 1000000) :
    Calls Tryz.prog 177 #[.pointer (some ⟨r, 0, none⟩)] w fun x w' => ReadSaid (readN S).1 w x w' r := by
  have hrl := hr.lt
  have hpr : w.heap.size ≠ r := by omega
  have hnew := Nblk.new w false none none 0 0 0 0
  have HC := hide (byte_any r 0 S _ (hr.alloc (.cells #[.bool false, .slice none 0 0, .slice none 0 0] 38)) hL)
  have hle := byteR_le S 0
  have HI := hide (fun W (hW : Rd W r (byteR S 0).2.1 (byteR S 0).2.2) => entriesI_any r _ _ W hW (by omega))
  have HK := hide (fun W (hW : Rd W r (byteR S 0).2.1 (byteR S 0).2.2) => entriesK_any r _ _ W hW (by omega))
  have HN := hide hnew
  unfold readN
  clear hr hnew hle
  generalize byteR S 0 = T at *
  by_cases h1 : T.1 = 1
  · have f1 : ((T.1 : Int) == 1) = true := beq_iff_eq.2 (by omega)
    rw [if_pos h1]
    clear h1 HK
    generalize countR itemR T.2.1 T.2.2 = U at *
    go_enter Tryz.func177, Tryz.ntmps177
    go_wp2_with fail
    refine (unhide HC).mono ?_
    rintro x w1 ⟨rfl, ht⟩
    have HP := hide ((unhide HN).told ht hpr)
    have HT := hide ht.boxed
    have HD := hide ht.2
    clear ht HC HN
    obtain ⟨p, hp⟩ : ∃ y, y = w.heap.size := ⟨_, rfl⟩
    rw [← hp] at HP hpr ⊢
    have hpw : w.heap.size ≤ p := Nat.le_of_eq hp.symm
    clear hp
    go_wp2_with fail
    refine (unhide HI _ (unhide HD)).mono ?_
    rintro x w2 ⟨a, cap, rfl, ho, ht⟩
    have hp2 := (unhide HP).told ht hpr
    have HG := hide (grown_trans (unhide HT).1 ht.1)
    have HO := hide ho.row
    have c0 := hp2.cell0
    have c1 := hp2.cell1
    have c2 := hp2.cell2
    have f0 := hp2.free 0
    have f1' := hp2.free 1
    have f2 := hp2.free 2
    have HP2 := hide hp2
    clear ho ht hp2
    go_wp2
    have hs := (unhide HP2).store true a U.1.length cap none 0 0 (m := ⟨true, U.1, []⟩) (bi := a) (bk := none) ⟨unhide HO, .inl rfl⟩
    refine bodyPost_ret (v := .agg #[.bool true, .slice a U.1.length cap, .slice none 0 0]) ?_ rfl ⟨a, none, cap, 0, rfl, hs.2, grown_store (grown_store (grown_store (unhide HG) p 0 _ hpw) p 1 _ hpw) p 2 _ hpw⟩
    rw [results_cell1 rfl]
    go_simp
  · have f1 : ((T.1 : Int) == 1) = false := beq_eq_false_iff_ne.2 (by omega)
    rw [if_neg h1]
    clear h1
    by_cases h2 : T.1 = 2
    · have g1 : ((T.1 : Int) == 2) = true := beq_iff_eq.2 (by omega)
      rw [if_pos h2]
      clear h2 HI
      generalize countR kidR T.2.1 T.2.2 = U at *
      go_enter Tryz.func177, Tryz.ntmps177
      go_wp2_with fail
      refine (unhide HC).mono ?_
      rintro x w1 ⟨rfl, ht⟩
      have HP := hide ((unhide HN).told ht hpr)
      have HT := hide ht.boxed
      have HD := hide ht.2
      clear ht HC HN
      obtain ⟨p, hp⟩ : ∃ y, y = w.heap.size := ⟨_, rfl⟩
      rw [← hp] at HP hpr ⊢
      have hpw : w.heap.size ≤ p := Nat.le_of_eq hp.symm
      clear hp
      go_wp2_with fail
      refine (unhide HK _ (unhide HD)).mono ?_
      rintro x w2 ⟨a, cap, rfl, ho, ht⟩
      have hp2 := (unhide HP).told ht hpr
      have HG := hide (grown_trans (unhide HT).1 ht.1)
      have HO := hide ho.row
      have c0 := hp2.cell0
      have c1 := hp2.cell1
      have c2 := hp2.cell2
      have f0 := hp2.free 0
      have f1' := hp2.free 1
      have f2 := hp2.free 2
      have HP2 := hide hp2
      clear ho ht hp2
      go_wp2
      have hs := (unhide HP2).store false none 0 0 a U.1.length cap (m := ⟨false, [], U.1⟩) (bi := none) (bk := a) ⟨.inl rfl, unhide HO⟩
      refine bodyPost_ret (v := .agg #[.bool false, .slice none 0 0, .slice a U.1.length cap]) ?_ rfl ⟨none, a, 0, cap, rfl, hs.2, grown_store (grown_store (grown_store (unhide HG) p 0 _ hpw) p 1 _ hpw) p 2 _ hpw⟩
      rw [results_cell1 rfl]
      go_simp
    · have g1 : ((T.1 : Int) == 2) = false := beq_eq_false_iff_ne.2 (by omega)
      rw [if_neg h2]
      clear h2 HI HK
      go_enter Tryz.func177, Tryz.ntmps177
      go_wp2_with fail
      refine (unhide HC).mono ?_
      rintro x w1 ⟨rfl, ht⟩
      have HP := hide ((unhide HN).told ht hpr)
      have HT := hide ht.boxed
      have HD := hide ht.2
      clear ht HC HN
      obtain ⟨p, hp⟩ : ∃ y, y = w.heap.size := ⟨_, rfl⟩
      rw [← hp] at HP hpr ⊢
      have hpw : w.heap.size ≤ p := Nat.le_of_eq hp.symm
      clear hp
      have hp2 := unhide HP
      have c0 := hp2.cell0
      have c1 := hp2.cell1
      have c2 := hp2.cell2
      have f0 := hp2.free 0
      have f1' := hp2.free 1
      have f2 := hp2.free 2
      clear hp2
      go_wp2
      have hs := (unhide HP).store false none 0 0 none 0 0 (m := ⟨false, [], []⟩) (bi := none) (bk := none) ⟨.inl rfl, .inl rfl⟩
      refine bodyPost_ret (v := .agg #[.bool false, .slice none 0 0, .slice none 0 0]) ?_ rfl ⟨none, none, 0, 0, rfl, hs.2, grown_store (grown_store (grown_store (unhide HT).1 p 0 _ hpw) p 1 _ hpw) p 2 _ hpw⟩
      rw [results_cell1 rfl]
      go_simp
end Go.Proofs.YtdelobaiicoogaaGreatDoor.L6

/- Decode, as the program answers. -/
namespace Go.Proofs.YtdelobaiicoogaaGreatDoor.L6
open Go.ChangeShapes Go.WideShapes Go.ChangeAt Go.RowKit

theorem listR_len {α : Type} {f : ByteArray → Nat → α × ByteArray × Nat} (hf0 : ∀ L, (f L 0).2.2 = 0 → (f L 0).2.1.size + 1 ≤ L.size) (c : Nat) (L : ByteArray) (e : Nat) : (listR f c L e).1.length ≤ L.size + 1 := by
  induction c generalizing L e with
  | zero => simp [listR]
  | succ c ih =>
    by_cases he : e = 0
    · subst he
      rw [listR_next]
      show (listR f c (f L 0).2.1 (f L 0).2.2).1.length + 1 ≤ _
      by_cases h0 : (f L 0).2.2 = 0
      · have h1 := ih (f L 0).2.1 (f L 0).2.2
        have h2 := hf0 L h0
        omega
      · rw [listR_err f c _ _ h0]
        simp
    · rw [listR_err f _ _ _ he]
      simp
theorem readN_its (S : ByteArray) (h : S.size ≤ 1007) : (readN S).1.its.length ≤ 1100 := by
  unfold readN
  split
  · show (countR itemR (byteR S 0).2.1 (byteR S 0).2.2).1.length ≤ _
    have h1 := listR_len itemR_lt (shortR (byteR S 0).2.1 (byteR S 0).2.2).1 (shortR (byteR S 0).2.1 (byteR S 0).2.2).2.1 (shortR (byteR S 0).2.1 (byteR S 0).2.2).2.2
    have h2 := shortR_le (byteR S 0).2.1 (byteR S 0).2.2
    have h3 := byteR_le S 0
    unfold countR
    omega
  · split
    · exact Nat.zero_le _
    · exact Nat.zero_le _
theorem readN_kds (S : ByteArray) (h : S.size ≤ 1007) : (readN S).1.kds.length ≤ 1100 := by
  unfold readN
  split
  · exact Nat.zero_le _
  · split
    · show (countR kidR (byteR S 0).2.1 (byteR S 0).2.2).1.length ≤ _
      have h1 := listR_len kidR_lt (shortR (byteR S 0).2.1 (byteR S 0).2.2).1 (shortR (byteR S 0).2.1 (byteR S 0).2.2).2.1 (shortR (byteR S 0).2.1 (byteR S 0).2.2).2.2
      have h2 := shortR_le (byteR S 0).2.1 (byteR S 0).2.2
      have h3 := byteR_le S 0
      unfold countR
      omega
    · exact Nat.zero_le _

def nd0 : Nd := ⟨false, [], []⟩
/-- THE DOCUMENT's: the node of these bytes, or the error -/
def decodeN (S : ByteArray) : Nd × Nat := if S.size ≤ 1007 ∧ encodeN (readN S).1 = (S, 0) then ((readN S).1, 0) else (nd0, 60)
def DecSaid (T : Nd × Nat) (w : World) (x : Ending) (w' : World) : Prop := ∃ (ai ak : Option Addr) (ci ck : Nat), x = .returned (.tuple #[.agg #[.bool T.1.leaf, .slice ai T.1.its.length ci, .slice ak T.1.kds.length ck], .int .i64 (T.2 : Int)]) ∧ Has w' T.1 ai ak ∧ Below w.heap.size w w'
theorem below_store {a b : World} {B : Nat} (h : Below B a b) (p j : Nat) (u : Value) (hp : B ≤ p) : Below B a (b.setCell ⟨p, j, none⟩ u) := h.setCell hp u
theorem str_neq {A B : ByteArray} (h : A ≠ B) : (A.toList == B.toList) = false := by
  rw [beq_eq_false_iff_ne]
  intro e
  rw [ByteArray.toList_eq, ByteArray.toList_eq] at e
  exact h (ByteArray.ext (Array.toList_inj.1 e))
theorem str_same (A : ByteArray) : (A.toList == A.toList) = true := by simp
theorem read_new (s : ByteArray) (w : World) :
    Calls Tryz.prog 178 #[.string s] w fun x w' => ∃ g, x = .returned (.pointer (some ⟨g, 0, none⟩)) ∧ w.heap.size ≤ g ∧ Rd w' g s 0 ∧ Below w.heap.size w w' := by
  refine (read_any s w).mono ?_
  rintro x w' ⟨rfl, rfl⟩
  exact ⟨_, rfl, Nat.le_refl _, Rd.new w s, (Below.refl _ _).alloc (Nat.le_refl _) _⟩
/-- the program has read a node -/
theorem read_whole (S : ByteArray) (g : Nat) (W w : World) (hb : Below W.heap.size W w) (hg : W.heap.size ≤ g) (hr : Rd w g S 0) (hL : S.size ≤ 1000000) :
    Calls Tryz.prog 177 #[.pointer (some ⟨g, 0, none⟩)] w fun x w' => ∃ (ai ak : Option Addr) (ci ck : Nat), x = .returned (.agg #[.bool (readN S).1.leaf, .slice ai (readN S).1.its.length ci, .slice ak (readN S).1.kds.length ck]) ∧ Has w' (readN S).1 ai ak ∧ Below W.heap.size W w' := by
  refine (read_node g S w hr hL).mono ?_
  rintro x w' ⟨ai, ak, ci, ck, he, hh, hgr⟩
  exact ⟨ai, ak, ci, ck, he, hh, hb.grown hgr hb.size (fun k hk => by injection hk with hk; omega)⟩

set_option maxRecDepth 10000 in
set_option maxHeartbeats 2000000 in
theorem decode_long (S : ByteArray) (w : World) (h : 1007 < S.size) :
    Calls Tryz.prog 146 #[.string S] w fun x w' => DecSaid (nd0, 60) w x w' := by
  go_enter Tryz.func146, Tryz.ntmps146
  go_wp2
  refine bodyPost_ret (v := .tuple #[.agg #[.bool false, .slice none 0 0, .slice none 0 0], .int .i64 60]) ?_ rfl ⟨none, none, 0, 0, rfl, ⟨.inl rfl, .inl rfl⟩, below_alloc _ _⟩
  rw [results_cell_tmp rfl]
  go_simp

set_option maxRecDepth 10000 in
set_option maxHeartbeats 4000000 in
theorem decode_short (S : ByteArray) (w : World) (h : S.size ≤ 1007) :
    Calls Tryz.prog 146 #[.string S] w fun x w' => DecSaid (decodeN S) w x w' := by
  have hi := readN_its S h
  have hk := readN_kds S h
  have HD : Hid (decodeN S = if encodeN (readN S).1 = (S, 0) then ((readN S).1, 0) else (nd0, 60)) := by
    show _ = _
    unfold decodeN
    by_cases he : encodeN (readN S).1 = (S, 0)
    · rw [if_pos ⟨h, he⟩, if_pos he]
    · rw [if_neg (fun h => he h.2), if_neg he]
  have HRW := hide (fun g W w' hb hg hr => read_whole S g W w' hb hg hr (by omega))
  generalize readN S = N at *
  obtain ⟨n, LL, ee⟩ := N
  simp only at hi hk HD HRW
  have HP := hide (Nblk.new w false none none 0 0 0 0)
  have HB := hide (below_alloc w (.cells #[.bool false, .slice none 0 0, .slice none 0 0] 38))
  go_enter Tryz.func146, Tryz.ntmps146
  go_wp2_with fail
  obtain ⟨p, hp⟩ : ∃ y, y = w.heap.size := ⟨_, rfl⟩
  rw [← hp] at HP ⊢
  generalize w.alloc (.cells #[.bool false, .slice none 0 0, .slice none 0 0] 38) = w1 at *
  have hpw : w.heap.size ≤ p := Nat.le_of_eq hp.symm
  clear hp
  refine (read_new S w1).mono ?_
  rintro x w2 ⟨g, rfl, hg, hr, hb⟩
  have HG := hide (And.intro hg (And.intro hr hb))
  clear hg hr hb
  go_wp2_with fail
  refine (unhide HRW g w1 _ (unhide HG).2.2 (unhide HG).1 (unhide HG).2.1).mono ?_
  rintro x w3 ⟨ai, ak, ci, ck, rfl, hh, hb⟩
  have HB3 := hide hb
  have HH3 := hide hh
  have HP3 := hide ((unhide HP).below hb)
  clear hb hh HG HP
  go_wp2_with fail
  have HN := hide (Nblk.new w3 n.leaf ai ak n.its.length ci n.kds.length ck)
  have HB4 := hide (below_alloc w3 (.cells #[.bool n.leaf, .slice ai n.its.length ci, .slice ak n.kds.length ck] 38))
  obtain ⟨q, hq⟩ : ∃ y, y = w3.heap.size := ⟨_, rfl⟩
  rw [← hq] at HN ⊢
  generalize w3.alloc (.cells #[.bool n.leaf, .slice ai n.its.length ci, .slice ak n.kds.length ck] 38) = w4 at *
  clear hq
  refine (encode_any n ai ak ci ck w4 ((unhide HH3).grow (unhide HB4)) hi hk).mono ?_
  rintro x w5 ⟨rfl, hb⟩
  have hp5 := ((unhide HP3).below (unhide HB4)).below hb
  have hq5 := (unhide HN).below hb
  have HH5 := hide (((unhide HH3).grow (unhide HB4)).grow hb)
  have HB5 := hide (below_then (below_then (below_then (unhide HB) (unhide HB3)) (unhide HB4)) hb)
  have c0 := hp5.cell0
  have c1 := hp5.cell1
  have c2 := hp5.cell2
  have f0 := hp5.free 0
  have f1 := hp5.free 1
  have f2 := hp5.free 2
  have d0 := hq5.cell0
  have d1 := hq5.cell1
  have d2 := hq5.cell2
  have HP5 := hide hp5
  clear hb hp5 hq5 HB HB3 HB4 HH3 HP3 HN
  generalize encodeN n = E at *
  obtain ⟨T, er⟩ := E
  simp only
  by_cases her : er = 0
  · subst her
    by_cases hT : T = S
    · subst hT
      have hs := str_same T
      have hd : decodeN T = (n, 0) := by rw [unhide HD, if_pos rfl]
      clear HD
      have HD := hide hd
      clear hd
      go_wp2
      have hst := (unhide HP5).store n.leaf ai n.its.length ci ak n.kds.length ck (unhide HH5)
      refine bodyPost_ret (v := .tuple #[.agg #[.bool n.leaf, .slice ai n.its.length ci, .slice ak n.kds.length ck], .int .i64 0]) ?_ rfl ?_
      · rw [results_cell_tmp rfl]
        go_simp
      · rw [unhide HD]
        exact ⟨ai, ak, ci, ck, rfl, hst.2, below_store (below_store (below_store (unhide HB5) p 0 _ hpw) p 1 _ hpw) p 2 _ hpw⟩
    · have hs := str_neq hT
      have hd : decodeN S = (nd0, 60) := by rw [unhide HD, if_neg (fun e => hT (Prod.ext_iff.1 e).1)]
      have HD := hide hd
      clear hd hT
      go_wp2
      refine bodyPost_ret (v := .tuple #[.agg #[.bool false, .slice none 0 0, .slice none 0 0], .int .i64 60]) ?_ rfl ?_
      · rw [results_cell_tmp rfl]
        go_simp
      · rw [unhide HD]
        exact ⟨none, none, 0, 0, rfl, ⟨.inl rfl, .inl rfl⟩, below_store (below_store (below_store (unhide HB5) p 0 _ hpw) p 1 _ hpw) p 2 _ hpw⟩
  · have g0 : ((er : Int) == 0) = false := beq_eq_false_iff_ne.2 (by omega)
    have g1 : ((er : Int) != 0) = true := bne_iff_ne.2 (by omega)
    have hd : decodeN S = (nd0, 60) := by rw [unhide HD, if_neg (fun e => her (Prod.ext_iff.1 e).2)]
    have HD := hide hd
    clear hd her
    go_wp2
    refine bodyPost_ret (v := .tuple #[.agg #[.bool false, .slice none 0 0, .slice none 0 0], .int .i64 60]) ?_ rfl ?_
    · rw [results_cell_tmp rfl]
      go_simp
    · rw [unhide HD]
      exact ⟨none, none, 0, 0, rfl, ⟨.inl rfl, .inl rfl⟩, below_store (below_store (below_store (unhide HB5) p 0 _ hpw) p 1 _ hpw) p 2 _ hpw⟩

theorem decode_any (S : ByteArray) (w : World) : Calls Tryz.prog 146 #[.string S] w fun x w' => DecSaid (decodeN S) w x w' := by
  by_cases h : S.size ≤ 1007
  · exact decode_short S w h
  · have e : decodeN S = (nd0, 60) := by unfold decodeN; rw [if_neg (fun h' => h h'.1)]
    rw [e]
    exact decode_long S w (by omega)
end Go.Proofs.YtdelobaiicoogaaGreatDoor.L6
