/- Texts that the proof needs, one behind the other. -/
import Derived.Test.YtdelobaiicoogaaGreatDoorMbb
import Derived.Deep.RegionHeld3
import Derived.Maps.AppendAt
import Derived.LoopN
/- Which kid a key stands below; the same tree once more; the value of a key in no tree, in a leaf. -/
namespace Go.Proofs.YtdelobaiicoogaaGreatDoor
open Go.ChangeShapes Go.WideShapes Go.ChangeAt Go.RowKit
attribute [local go_sem] Oper.semAt_some
variable {w w' : World} {p d : Nat} {h : Hp} {c : Nat} {F : List Nat}

/-- which kid a key stands below, or would -/
def kidN (n : L6.Nd) (key : ByteArray) : Nat := let r := L6.findK (L6.keysN n) key; if r.2 = true then r.1 else r.1 - 1
set_option maxHeartbeats 1000000 in
set_option maxRecDepth 20000 in
theorem kidFor_any (n : L6.Nd) (ai ak : Option Addr) (ci ck : Nat) (key : ByteArray) (w : World) (hn : L6.Has w n ai ak) (hil : n.its.length ≤ 1000000) (hkl : n.kds.length ≤ 1000000) :
    Calls Tryz.prog 75 #[.agg #[.bool n.leaf, .slice ai n.its.length ci, .slice ak n.kds.length ck], .string key] w fun e w' => e = .returned (.int .i64 (kidN n key : Int)) ∧ Below w.heap.size w w' := by
  have hb0 := below_alloc w (.cells #[.bool n.leaf, .slice ai n.its.length ci, .slice ak n.kds.length ck] 38)
  have HF := hide (L6.find_any n ai ak ci ck key _ (hn.grow hb0) hil hkl)
  have hN := L6.Nblk.new w n.leaf ai ak n.its.length ci n.kds.length ck
  have x0 := hN.cell0
  have x1 := hN.cell1
  have x2 := hN.cell2
  have HB := hide hb0
  have hle : (L6.findK (L6.keysN n) key).1 ≤ 1000000 := by
    have := (findK_le (L6.keysN n) key).1
    have hk : (L6.keysN n).length ≤ 1000000 := by
      unfold L6.keysN
      split
      · rw [List.length_map]; exact hil
      · rw [List.length_map]; exact hkl
    omega
  unfold kidN
  clear hN hb0 hn
  generalize L6.findK (L6.keysN n) key = T at *
  obtain ⟨at', is'⟩ := T
  simp only at HF hle ⊢
  cases is' with
  | true =>
    go_enter Tryz.func75, Tryz.ntmps75
    go_wp2_with (go_at_call 43; refine (unhide HF).mono ?_; rintro e w1 ⟨rfl, hb⟩; have HB1 := hide hb; clear hb)
    go_ret
    exact ⟨rfl, below_then (unhide HB) (unhide HB1)⟩
  | false =>
    go_enter Tryz.func75, Tryz.ntmps75
    go_wp2_with (go_at_call 43; refine (unhide HF).mono ?_; rintro e w1 ⟨rfl, hb⟩; have HB1 := hide hb; clear hb)
    have hmx : max ((at' : Int) - 1) 0 = ((at' - 1 : Nat) : Int) := by omega
    rw [hmx]
    go_ret
    exact ⟨rfl, below_then (unhide HB) (unhide HB1)⟩
set_option maxHeartbeats 1000000 in
theorem again_none (v : Value) (w : World) : Calls Tryz.prog 44 #[v, .int .i64 0] w fun e w' => e = .returned (.tuple #[.int .i64 0, .int .i64 0]) ∧ w' = w := by
  go_enter Tryz.func44, Tryz.ntmps44
  go_wp2
  go_ret2
  exact ⟨rfl, rfl⟩
set_option maxHeartbeats 1000000 in
set_option maxRecDepth 20000 in
theorem again_any (n : Int) (hn : L5.I64 n) (h0 : n ≠ 0) (w : World) (H : IsHeap w p d h c F) :
    Calls Tryz.prog 44 #[.pointer (some ⟨p, 0, none⟩), .int .i64 n] w fun e w' => e = .returned (.tuple #[.int .i64 (if L5.holdE 2 h.al n = 0 then n else 0), .int .i64 (L5.holdE 2 h.al n)]) ∧ HTurned w w' p d (holdR h n) c F := by
  have HC := hide (hhold_any n hn w H)
  have h1 : (n == 0) = false := beq_eq_false_iff_ne.2 h0
  clear H hn h0
  generalize L5.holdE 2 h.al n = E at *
  by_cases hE : E = 0
  · subst hE
    go_enter Tryz.func44, Tryz.ntmps44
    go_wp2_with (go_at_call 80; refine (unhide HC).mono ?_; rintro e w1 ⟨rfl, hh⟩; have HX := hide hh; clear hh)
    go_ret2
    exact ⟨rfl, unhide HX⟩
  · have h2 : (E == 0) = false := beq_eq_false_iff_ne.2 hE
    have h3 : (E != 0) = true := bne_iff_ne.2 hE
    rw [if_neg hE]
    clear hE
    go_enter Tryz.func44, Tryz.ntmps44
    go_wp2_with (go_at_call 80; refine (unhide HC).mono ?_; rintro e w1 ⟨rfl, hh⟩; have HX := hide hh; clear hh)
    go_ret2
    exact ⟨rfl, unhide HX⟩
/-- the value of a key in a leaf's items -/
def valR (its : List L6.It) (key : ByteArray) : ByteArray × Bool := let r := L6.findK (its.map (fun x => x.1)) key; if r.2 = true then (((its[r.1]?).map (fun x => x.2)).getD ⟨#[]⟩, true) else (⟨#[]⟩, false)
set_option maxHeartbeats 4000000 in
set_option maxRecDepth 20000 in
theorem get_leaf (x : Nat) (hx : x < 4096) (hx0 : x ≠ 0) (key : ByteArray) (its : List L6.It) (w : World) (H : IsHeap w p d h c F) (hget : getR h (x : Int) = (⟨true, its, []⟩, 0)) (hcnt : h.cnt (x : Int) ≠ 0) (hlen : its.length ≤ 1100) :
    Calls Tryz.prog 14 #[.pointer (some ⟨p, 0, none⟩), .int .i64 (x : Int), .string key] w fun e w' => e = .returned (.tuple #[.string (valR its key).1, .bool (valR its key).2, .int .i64 0]) ∧ Below w.heap.size w w' := by
  have HE : Hid (heldE h [(x : Int)] = 0) := heldE_is hcnt
  have hb1 := below_alloc w (.cells #[.int .i64 (x : Int)] 3)
  have HH := hide (H.grow hb1)
  have HB1 := hide hb1
  have HI : Hid (L5.I64 (x : Int)) := by show L5.I64 _; unfold L5.I64; omega
  have HW := hide (wayTo_leaf x hx hx0 key its _ (H.grow hb1) hget)
  have hle := findK_le (its.map (fun x => x.1)) key
  rw [List.length_map] at hle
  have HFN := hide (fun W1 ai ak ci ck (hh : L6.Has W1 ⟨true, its, []⟩ ai ak) => L6.find_any ⟨true, its, []⟩ ai ak ci ck key W1 hh (by show its.length ≤ _; omega) (Nat.zero_le _))
  have hks : L6.keysN ⟨true, its, []⟩ = its.map (fun x => x.1) := rfl
  rw [hks] at HFN
  unfold valR
  clear hks hb1 H hget hcnt
  generalize L6.findK (its.map (fun x => x.1)) key = T at *
  obtain ⟨at', is'⟩ := T
  simp only at HFN hle ⊢
  cases is' with
  | false =>
    go_enter Tryz.func14, Tryz.ntmps14
    go_wp2_with (first
      | (go_at_call 39; refine (theld_one (x : Int) _ _ (unhide HH) (unhide HI) (by simp)).mono ?_; rintro e w1 ⟨rfl, hw⟩; rw [hw]; clear hw w1; rw [unhide HE])
      | (go_at_call 42; refine (unhide HW).mono ?_; rintro e w2 ⟨ai, ak, ci, ck, rfl, hh, hcp, hb2⟩; have HX := hide (And.intro hh hb2); clear hh hcp hb2))
    obtain ⟨hh, hb2⟩ := unhide HX
    have hb3 := below_alloc w2 (.cells #[.bool true, .slice ai its.length ci, .slice ak 0 ck] 38)
    refine (unhide HFN _ ai ak ci ck (hh.grow hb3)).mono ?_
    rintro e w4 ⟨rfl, hb4⟩
    have HB4 := hide (below_then (below_then (unhide HB1) hb2) (below_then hb3 hb4))
    clear hh hb2 hb3 hb4 HX
    go_wp2
    go_ret3
    exact ⟨rfl, unhide HB4⟩
  | true =>
    have hlt := hle.2 rfl
    obtain ⟨y, hy⟩ := L6.get_some hlt
    have hv : (if true = true then (((its[at']?).map (fun x => x.2)).getD ⟨#[]⟩, true) else ((⟨#[]⟩ : ByteArray), false)) = (y.2, true) := by rw [if_pos rfl, hy]; rfl
    rw [hv]
    clear hv
    have HY := hide hy
    clear hy
    go_enter Tryz.func14, Tryz.ntmps14
    go_wp2_with (first
      | (go_at_call 39; refine (theld_one (x : Int) _ _ (unhide HH) (unhide HI) (by simp)).mono ?_; rintro e w1 ⟨rfl, hw⟩; rw [hw]; clear hw w1; rw [unhide HE])
      | (go_at_call 42; refine (unhide HW).mono ?_; rintro e w2 ⟨ai, ak, ci, ck, rfl, hh, hcp, hb2⟩; have HX := hide (And.intro hh hb2); clear hh hcp hb2))
    obtain ⟨hh, hb2⟩ := unhide HX
    have hb3 := below_alloc w2 (.cells #[.bool true, .slice ai its.length ci, .slice ak 0 ck] 38)
    have hN := L6.Nblk.new w2 true ai ak its.length ci 0 ck
    refine (unhide HFN _ ai ak ci ck (hh.grow hb3)).mono ?_
    rintro e w4 ⟨rfl, hb4⟩
    have HB4 := hide (below_then (below_then (unhide HB1) hb2) (below_then hb3 hb4))
    have hN4 := hN.below hb4
    have x0 := hN4.cell0
    have x1 := hN4.cell1
    have x2 := hN4.cell2
    obtain ⟨b, off, rfl, hrow⟩ := ((hh.grow hb3).grow hb4).1.at hlt
    obtain ⟨y0, y1⟩ := hrow _ _ (unhide HY)
    have hl2 : at' * 2 + 1 < its.length * 2 := by omega
    clear hh hb2 hb3 hb4 HX hN hN4 hrow
    go_wp2
    go_ret3
    exact ⟨rfl, unhide HB4⟩
end Go.Proofs.YtdelobaiicoogaaGreatDoor

/- What Put makes of a leaf's items. -/
namespace Go.Proofs.YtdelobaiicoogaaGreatDoor
open Go.ChangeShapes Go.WideShapes Go.ChangeAt Go.RowKit
attribute [local go_sem] Oper.semAt_some
variable {w w' : World} {p d : Nat} {h : Hp} {c : Nat} {F : List Nat}

/-- a leaf's items, but that the key has the value -/
def putI (its : List L6.It) (key val : ByteArray) : List L6.It := its.take (placeN its key).1 ++ [(key, val)] ++ its.drop (placeN its key).2
theorem cell_in {W : World} {g i : Nat} {cs : Array Value} {ty : TypeId} {v : Value} (h : W.heap[g]? = some (.cells cs ty (0, 0))) (hv : cs[i]? = some v) : W.cell? ⟨g, i, none⟩ = some v := by simp [World.cell?, h, hv]
theorem rowAt_take {w : World} {b off : Nat} {l : List L6.It} (hr : L6.RowAt itV w b off l) (k : Nat) : L6.RowAt itV w b off (l.take k) := by
  intro i x hx
  refine hr i x ?_
  rw [List.getElem?_take] at hx
  split at hx
  · exact hx
  · cases hx
theorem rowAt_drop {w : World} {b off : Nat} {l : List L6.It} (hr : L6.RowAt itV w b off l) (k : Nat) : L6.RowAt itV w b (off + k * 2) (l.drop k) := by
  intro i x hx
  rw [List.getElem?_drop] at hx
  have h := hr (k + i) x hx
  have e : off + (k + i) * 2 = off + k * 2 + i * 2 := by omega
  rw [e] at h
  exact h
theorem three_ok {W : World} {its : List L6.It} {b off ci fr to' : Nat} {key val : ByteArray} (hr : L6.RowAt itV W b off its) (h1 : fr ≤ its.length) (a3 : Option Addr) (c3 : Nat) (h3 : L6.Row itV W a3 (its.drop to')) :
    ∀ (i : Nat) (x : Pt3), ([((some ⟨b, off, none⟩ : Option Addr), ci, its.take fr), ((some ⟨W.heap.size, 0, none⟩ : Option Addr), 1, [(key, val)]), (a3, c3, its.drop to')] : List Pt3)[i]? = some x →
      ((W.alloc (.cells #[.string key, .string val] 58)).alloc (.cells #[.slice (some ⟨b, off, none⟩) fr ci, .slice (some ⟨W.heap.size, 0, none⟩) 1 1, .slice a3 (its.length - to') c3] 35)).cell? ⟨W.heap.size + 1, i, none⟩ = some (.slice x.1 x.2.2.length x.2.1) ∧
      L6.Row itV ((W.alloc (.cells #[.string key, .string val] 58)).alloc (.cells #[.slice (some ⟨b, off, none⟩) fr ci, .slice (some ⟨W.heap.size, 0, none⟩) 1 1, .slice a3 (its.length - to') c3] 35)) x.1 x.2.2 := by
  have b1 := below_alloc W (.cells #[.string key, .string val] 58)
  have b2 := below_alloc (W.alloc (.cells #[.string key, .string val] 58)) (.cells #[.slice (some ⟨b, off, none⟩) fr ci, .slice (some ⟨W.heap.size, 0, none⟩) 1 1, .slice a3 (its.length - to') c3] 35)
  have hn := heap_alloc_new (W.alloc (.cells #[.string key, .string val] 58)) (.cells #[.slice (some ⟨b, off, none⟩) fr ci, .slice (some ⟨W.heap.size, 0, none⟩) 1 1, .slice a3 (its.length - to') c3] 35)
  rw [World.size_alloc] at hn
  intro i x hx
  match i, hx with
  | 0, hx =>
    cases hx
    refine ⟨?_, .inr ⟨b, off, rfl, (rowAt_take (hr.grow (below_then b1 b2)) fr)⟩⟩
    have e : (its.take fr).length = fr := by rw [List.length_take]; omega
    refine cell_in hn ?_
    rw [e]
    rfl
  | 1, hx =>
    cases hx
    refine ⟨cell_in hn rfl, .inr ⟨W.heap.size, 0, rfl, ?_⟩⟩
    intro j y hy
    match j, hy with
    | 0, hy =>
      cases hy
      have hm : ((W.alloc (.cells #[.string key, .string val] 58)).alloc (.cells #[.slice (some ⟨b, off, none⟩) fr ci, .slice (some ⟨W.heap.size, 0, none⟩) 1 1, .slice a3 (its.length - to') c3] 35)).heap[W.heap.size]? = some (.cells #[.string key, .string val] 58 (0, 0)) :=
        (b2.block _ (by rw [World.size_alloc]; omega)).trans (heap_alloc_new W _)
      exact ⟨cell_in hm rfl, cell_in hm rfl⟩
    | j + 1, hy => simp at hy
  | 2, hx =>
    cases hx
    refine ⟨?_, h3.grow (below_then b1 b2)⟩
    have e : (its.drop to').length = its.length - to' := List.length_drop
    refine cell_in hn ?_
    rw [e]
    rfl
  | i + 3, hx => simp at hx
theorem three_okD {W : World} {its : List L6.It} {b off ci fr to' : Nat} {key val : ByteArray} (hr : L6.RowAt itV W b off its) (h1 : fr ≤ its.length) (a3 : Option Addr) (c3 : Nat) (h3 : L6.Row itV W a3 (its.drop to')) :
    ∀ (i : Nat) (x : Pt3), ([((some ⟨b, off, none⟩ : Option Addr), ci, its.take fr), ((some ⟨W.heap.size, 0, none⟩ : Option Addr), 1, [(key, val)]), (a3, c3, its.drop to')] : List Pt3)[i]? = some x →
      ((W.alloc (.cells #[.string key, .string val] 58)).alloc (.cells #[.slice (some ⟨b, off, none⟩) fr ci, .slice (some ⟨W.heap.size, 0, none⟩) 1 1, .slice a3 (its.length - to') c3] 35)).drew.cell? ⟨W.heap.size + 1, i, none⟩ = some (.slice x.1 x.2.2.length x.2.1) ∧
      L6.Row itV ((W.alloc (.cells #[.string key, .string val] 58)).alloc (.cells #[.slice (some ⟨b, off, none⟩) fr ci, .slice (some ⟨W.heap.size, 0, none⟩) 1 1, .slice a3 (its.length - to') c3] 35)).drew x.1 x.2.2 :=
  fun i x hx => ⟨(three_ok hr h1 a3 c3 h3 i x hx).1, ((three_ok hr h1 a3 c3 h3 i x hx).2).grow (below_drew _)⟩
theorem three_calls {W : World} {its : List L6.It} {b off ci fr to' : Nat} {key val : ByteArray} (hr : L6.RowAt itV W b off its) (h1 : fr ≤ its.length) (hl : its.length ≤ 1100) (a3 : Option Addr) (c3 : Nat) (h3 : L6.Row itV W a3 (its.drop to')) :
    Calls Tryz.prog 48 #[.slice (some ⟨W.heap.size + 1, 0, none⟩) 3 3] ((W.alloc (.cells #[.string key, .string val] 58)).alloc (.cells #[.slice (some ⟨b, off, none⟩) fr ci, .slice (some ⟨W.heap.size, 0, none⟩) 1 1, .slice a3 (its.length - to') c3] 35)).drew
      fun e w' => ∃ v, e = .returned v ∧ OwnI W.heap.size w' v (its.take fr ++ [(key, val)] ++ its.drop to') ∧ Below W.heap.size W w' := by
  have b1 := below_alloc W (.cells #[.string key, .string val] 58)
  have b2 := below_then b1 (below_alloc (W.alloc (.cells #[.string key, .string val] 58)) (.cells #[.slice (some ⟨b, off, none⟩) fr ci, .slice (some ⟨W.heap.size, 0, none⟩) 1 1, .slice a3 (its.length - to') c3] 35))
  have h := concat_any ([((some ⟨b, off, none⟩ : Option Addr), ci, its.take fr), ((some ⟨W.heap.size, 0, none⟩ : Option Addr), 1, [(key, val)]), (a3, c3, its.drop to')] : List Pt3) (W.heap.size + 1) 3 _ (three_okD hr h1 a3 c3 h3)
    (by
      unfold lens
      simp only [List.map_cons, List.map_nil, List.sum_cons, List.sum_nil, List.length_take, List.length_drop, List.length_cons, List.length_nil]
      omega) (by show 3 ≤ 1000; decide)
  have b3 := below_then b2 (below_drew _)
  refine h.mono ?_
  rintro e w' ⟨v, rfl, ho, hb⟩
  have hc : cat ([((some ⟨b, off, none⟩ : Option Addr), ci, its.take fr), ((some ⟨W.heap.size, 0, none⟩ : Option Addr), 1, [(key, val)]), (a3, c3, its.drop to')] : List Pt3) = its.take fr ++ [(key, val)] ++ its.drop to' := by
    unfold cat
    simp
  rw [hc] at ho
  exact ⟨v, rfl, ho.base b3.size, below_then b3 hb⟩
theorem three_calls0 {W : World} {its : List L6.It} {b off ci fr to' : Nat} {key val : ByteArray} (hr : L6.RowAt itV W b off its) (h1 : fr ≤ its.length) (hl : its.length ≤ 1100) (a3 : Option Addr) (hd : its.drop to' = []) :
    Calls Tryz.prog 48 #[.slice (some ⟨W.heap.size + 1, 0, none⟩) 3 3] ((W.alloc (.cells #[.string key, .string val] 58)).alloc (.cells #[.slice (some ⟨b, off, none⟩) fr ci, .slice (some ⟨W.heap.size, 0, none⟩) 1 1, .slice a3 0 0] 35)).drew
      fun e w' => ∃ v, e = .returned v ∧ OwnI W.heap.size w' v (its.take fr ++ [(key, val)] ++ its.drop to') ∧ Below W.heap.size W w' := by
  have e : its.length - to' = 0 := by
    have := congrArg List.length hd
    rw [List.length_drop] at this
    exact this
  have h := three_calls (key := key) (val := val) (ci := ci) (to' := to') hr h1 hl a3 0 (.inl hd)
  rw [e] at h
  exact h
set_option maxHeartbeats 4000000 in
set_option maxRecDepth 20000 in
theorem edit_put (its : List L6.It) (b off ci : Nat) (key val : ByteArray) (kc vc : Nat) (w : World) (hr : L6.RowAt itV w b off its) (hci : its.length ≤ ci) (hl : its.length ≤ 1100)
    (hk : w.cell? ⟨kc, 0, none⟩ = some (.string key)) (hv : w.cell? ⟨vc, 0, none⟩ = some (.string val)) :
    Calls Tryz.prog 46 #[.slice (some ⟨b, off, none⟩) its.length ci, .pointer (some ⟨kc, 0, none⟩), .pointer (some ⟨vc, 0, none⟩)] w fun e w' => ∃ v, e = .returned v ∧ OwnI w.heap.size w' v (putI its key val) ∧ Below w.heap.size w w' := by
  have HPL := hide (placeOf_any its (some ⟨b, off, none⟩) ci key w (.inr ⟨b, off, rfl, hr⟩) (by omega))
  have hpl := placeN_le its key
  have HR := hide hr
  unfold putI
  clear hr
  generalize placeN its key = T at *
  obtain ⟨fr, to'⟩ := T
  simp only at HPL hpl ⊢
  obtain ⟨hp1, hp2⟩ := hpl
  have hfc : fr ≤ ci := by omega
  by_cases hca : ci = to'
  · have HDR : Hid (its.drop to' = []) := by
      show _ = _
      rw [show to' = its.length by omega, List.drop_length]
    subst hca
    go_enter Tryz.func46, Tryz.ntmps46
    go_wp2_with (go_at_call 47; refine (unhide HPL).mono ?_; rintro e w1 ⟨rfl, hb1⟩; have k1 := (hb1.cell (World.block_lt_of_cell? _ _ hk)).trans hk; have v1 := (hb1.cell (World.block_lt_of_cell? _ _ hv)).trans hv; have HB1 := hide hb1; clear hb1)
    clear hk hv
    have HR1 := hide ((unhide HR).grow (unhide HB1))
    go_region_held3 (fun w' => w'.cell? ⟨kc, 0, none⟩ = some (.string key) ∧ w'.cell? ⟨vc, 0, none⟩ = some (.string val))
      (first | assumption | exact ⟨k1, v1⟩ | exact ⟨k5, l5⟩ | exact ⟨cell_later _ k1, cell_later _ v1⟩ | exact ⟨cell_later _ (cell_later _ k1), cell_later _ (cell_later _ v1)⟩)
      (first | (go_at_call 48; refine (three_calls0 (fr := fr) (unhide HR1) (by omega) hl _ (unhide HDR)).mono ?_; rintro e w5 ⟨v5, rfl, ho5, hb5⟩; have k5 := (hb5.cell (World.block_lt_of_cell? _ _ k1)).trans k1; have l5 := (hb5.cell (World.block_lt_of_cell? _ _ v1)).trans v1; have HX := hide (And.intro ho5 hb5); clear ho5 hb5))
    go_wp2
    go_ret
    exact ⟨_, rfl, (unhide HX).1.base (unhide HB1).size, below_then (unhide HB1) (unhide HX).2⟩
  · have hca' : ¬ (ci : Int) = (to' : Int) := by omega
    go_enter Tryz.func46, Tryz.ntmps46
    go_wp2_with (go_at_call 47; refine (unhide HPL).mono ?_; rintro e w1 ⟨rfl, hb1⟩; have k1 := (hb1.cell (World.block_lt_of_cell? _ _ hk)).trans hk; have v1 := (hb1.cell (World.block_lt_of_cell? _ _ hv)).trans hv; have HB1 := hide hb1; clear hb1)
    clear hk hv
    have HR1 := hide ((unhide HR).grow (unhide HB1))
    go_region_held3 (fun w' => w'.cell? ⟨kc, 0, none⟩ = some (.string key) ∧ w'.cell? ⟨vc, 0, none⟩ = some (.string val))
      (first | assumption | exact ⟨k1, v1⟩ | exact ⟨k5, l5⟩ | exact ⟨cell_later _ k1, cell_later _ v1⟩ | exact ⟨cell_later _ (cell_later _ k1), cell_later _ (cell_later _ v1)⟩)
      (first | (go_at_call 48; refine (three_calls (unhide HR1) (by omega) hl _ _ (.inr ⟨b, off + to' * 2, rfl, rowAt_drop (unhide HR1) to'⟩)).mono ?_; rintro e w5 ⟨v5, rfl, ho5, hb5⟩; have k5 := (hb5.cell (World.block_lt_of_cell? _ _ k1)).trans k1; have l5 := (hb5.cell (World.block_lt_of_cell? _ _ v1)).trans v1; have HX := hide (And.intro ho5 hb5); clear ho5 hb5))
    go_wp2
    go_ret
    exact ⟨_, rfl, (unhide HX).1.base (unhide HB1).size, below_then (unhide HB1) (unhide HX).2⟩
end Go.Proofs.YtdelobaiicoogaaGreatDoor

/- What draftOf and leafOf make of a leaf: entries in memory of one's own. -/
namespace Go.Proofs.YtdelobaiicoogaaGreatDoor
open Go.ChangeShapes Go.WideShapes Go.ChangeAt Go.RowKit
attribute [local go_sem] Oper.semAt_some

/-- an item as an entry -/
def entI (x : L6.It) : List Value := [.string x.1, .string x.2, .int .i64 0, .bool false, .slice none 0 0, .int .i64 0]
theorem info192 : (Tryz.prog.info? 192).map (fun i => (i.zero, i.size, i.bytes)) = some (some (.agg #[.string ⟨#[]⟩, .string ⟨#[]⟩, .int .i64 0, .bool false, .slice none 0 0, .int .i64 0]), 6, 80) := by kernel_rfl
/-- a row of entries of one's own -/
def OwnD (B : Nat) (w : World) (v : Value) (l : List L6.It) : Prop := w.ownsRow B 192 6 v l.length (l.flatMap entI)
theorem OwnD.nil (B : Nat) (w : World) : OwnD B w (.slice none 0 0) [] := World.ownsRow_nil _ _ _ _
theorem OwnD.grow {B : Nat} {w w' : World} {v : Value} {l : List L6.It} (h : OwnD B w v l) (hb : Below w.heap.size w w') : OwnD B w' v l :=
  L6.ownsRow_same h (fun g hg => hb.block g (World.ownsRow.lt h g hg).2)
theorem OwnD.base {B B' : Nat} {w : World} {v : Value} {l : List L6.It} (h : OwnD B w v l) (hB : B' ≤ B) : OwnD B' w v l := L6.ownsRow_base h hB
/-- draftOf under way: the node's box, the answer's variable, the draft -/
structure Dw (w wr : World) (L : Bool) (ai : Option Addr) (n ci : Nat) (ak : Option Addr) (ck : Nat) (v : Value) (l : List L6.It) : Prop where
  bel : Below w.heap.size w wr
  box : wr.heap[w.heap.size]? = some (.cells #[.bool L, .slice ai n ci, .slice ak 0 ck] 38 (0, 0))
  res : wr.heap[w.heap.size + 1]? = some (.cells #[.bool false, .slice none 0 0] 190 (0, 0))
  drf : wr.heap[w.heap.size + 2]? = some (.cells #[.bool L, v] 190 (0, 0))
  own : OwnD (w.heap.size + 3) wr v l
  siz : w.heap.size + 3 ≤ wr.heap.size
theorem Dw.new (w : World) (L : Bool) (ai : Option Addr) (n ci : Nat) (ak : Option Addr) (ck : Nat) : Dw w (((w.alloc (.cells #[.bool L, .slice ai n ci, .slice ak 0 ck] 38)).alloc (.cells #[.bool false, .slice none 0 0] 190)).alloc (.cells #[.bool L, .slice none 0 0] 190)) L ai n ci ak ck (.slice none 0 0) [] := by
  have b1 := below_alloc w (.cells #[.bool L, .slice ai n ci, .slice ak 0 ck] 38)
  have h1 := heap_alloc_new w (.cells #[.bool L, .slice ai n ci, .slice ak 0 ck] 38)
  have z1 : (w.alloc (.cells #[.bool L, .slice ai n ci, .slice ak 0 ck] 38)).heap.size = w.heap.size + 1 := World.size_alloc _ _
  generalize w.alloc (.cells #[.bool L, .slice ai n ci, .slice ak 0 ck] 38) = w1 at *
  have b2 := below_alloc w1 (.cells #[.bool false, .slice none 0 0] 190)
  have h2 := heap_alloc_new w1 (.cells #[.bool false, .slice none 0 0] 190)
  have z2 : (w1.alloc (.cells #[.bool false, .slice none 0 0] 190)).heap.size = w1.heap.size + 1 := World.size_alloc _ _
  generalize w1.alloc (.cells #[.bool false, .slice none 0 0] 190) = w2 at *
  have b3 := below_alloc w2 (.cells #[.bool L, .slice none 0 0] 190)
  have h3 := heap_alloc_new w2 (.cells #[.bool L, .slice none 0 0] 190)
  have z3 : (w2.alloc (.cells #[.bool L, .slice none 0 0] 190)).heap.size = w2.heap.size + 1 := World.size_alloc _ _
  rw [z1] at h2
  rw [z2, z1] at h3
  exact ⟨below_then (below_then b1 b2) b3, (b3.block _ (by omega)).trans ((b2.block _ (by omega)).trans h1), (b3.block _ (by omega)).trans h2, h3, OwnD.nil _ _, by omega⟩
theorem Dw.grow {w wr wq : World} {L : Bool} {ai : Option Addr} {n ci : Nat} {ak : Option Addr} {ck : Nat} {v : Value} {l : List L6.It} (h : Dw w wr L ai n ci ak ck v l) (hb : Below wr.heap.size wr wq) : Dw w wq L ai n ci ak ck v l :=
  ⟨below_then h.bel hb, (hb.block _ (by have := h.siz; omega)).trans h.box, (hb.block _ (by have := h.siz; omega)).trans h.res, (hb.block _ (by have := h.siz; omega)).trans h.drf, h.own.grow hb, Nat.le_trans h.siz hb.size⟩
theorem Dw.facts {w wr : World} {L : Bool} {ai : Option Addr} {n ci : Nat} {ak : Option Addr} {ck : Nat} {v : Value} {l : List L6.It} (h : Dw w wr L ai n ci ak ck v l) :
    wr.cell? ⟨w.heap.size, 2, none⟩ = some (.slice ak 0 ck) ∧ wr.cell? ⟨w.heap.size + 2, 0, none⟩ = some (.bool L) ∧ wr.cell? ⟨w.heap.size + 2, 1, none⟩ = some v ∧ (∀ i, wr.frozen? ⟨w.heap.size + 2, i, none⟩ = false) ∧
    wr.cell? ⟨w.heap.size + 1, 0, none⟩ = some (.bool false) ∧ wr.cell? ⟨w.heap.size + 1, 1, none⟩ = some (.slice none 0 0) ∧ ∀ i, wr.frozen? ⟨w.heap.size + 1, i, none⟩ = false := by
  have h0 := h.box
  have h1 := h.res
  have h2 := h.drf
  exact ⟨by simp [World.cell?, h0], by simp [World.cell?, h2], by simp [World.cell?, h2], fun i => by simp [World.frozen?, h2], by simp [World.cell?, h1], by simp [World.cell?, h1], fun i => by simp [World.frozen?, h1]⟩
/-- one entry more -/
theorem Dw.app {w W w1 : World} {L : Bool} {ai : Option Addr} {n ci : Nat} {ak : Option Addr} {ck : Nat} {v v' : Value} {l : List L6.It} {x : L6.It} {tmp : Obj} (h : Dw w W L ai n ci ak ck v l)
    (hown' : w1.ownsRow (w.heap.size + 3) 192 6 v' (l.length + 1) (l.flatMap entI ++ entI x)) (hgrow : (W.alloc tmp).grownBy w1 v.ownBlock) : Dw w (w1.setCell ⟨w.heap.size + 2, 1, none⟩ v') L ai n ci ak ck v' (l ++ [x]) ∧ w1.cell? ⟨w.heap.size + 2, 1, none⟩ = some v ∧ ∀ i, w1.frozen? ⟨w.heap.size + 2, i, none⟩ = false := by
  have hlt := h.siz
  have hk : ∀ g, g < w.heap.size + 3 → w1.heap[g]? = W.heap[g]? := fun g hg =>
    (hgrow.block g (by rw [World.size_alloc]; omega) (fun e => by have := (World.ownsRow.lt h.own g e.symm).1; omega)).trans (Below.heap_alloc _ _ _ (by omega))
  have hsz : W.heap.size ≤ w1.heap.size := by have := hgrow.size; rw [World.size_alloc] at this; omega
  have hd := (hk _ (by omega)).trans h.drf
  have hs : (w1.setCell ⟨w.heap.size + 2, 1, none⟩ v').heap.size = w1.heap.size := by simp [World.setCell]
  have ho : ∀ g, g ≠ w.heap.size + 2 → (w1.setCell ⟨w.heap.size + 2, 1, none⟩ v').heap[g]? = w1.heap[g]? := fun g hg => by
    simp [World.setCell, Array.getElem?_modify, Ne.symm hg]
  refine ⟨⟨L6.below_store ⟨hgrow.os.trans h.bel.os, hgrow.tape.trans h.bel.tape, hgrow.output.trans h.bel.output, by have := h.bel.size; omega, fun k hk' => (hk k (by omega)).trans (h.bel.block k hk')⟩ (w.heap.size + 2) 1 v' (by omega),
    (ho _ (by omega)).trans ((hk _ (by omega)).trans h.box), (ho _ (by omega)).trans ((hk _ (by omega)).trans h.res), ?_, ?_, by rw [hs]; omega⟩, by simp [World.cell?, hd], fun i => by simp [World.frozen?, hd]⟩
  · simp [World.setCell, Array.getElem?_modify, hd]
  · have e : (l ++ [x]).flatMap entI = l.flatMap entI ++ entI x := by rw [List.flatMap_append]; simp
    unfold OwnD
    rw [e, List.length_append, List.length_cons, List.length_nil]
    exact ownsRow_setCell_other hown' (fun e => by have := (World.ownsRow.lt hown' _ e).1; simp only at this; omega) v'
set_option maxHeartbeats 4000000 in
set_option maxRecDepth 20000 in
theorem draftOf_leaf (L : Bool) (its : List L6.It) (ai : Option Addr) (ci : Nat) (ak : Option Addr) (ck : Nat) (w : World) (hr : L6.Row itV w ai its) (hl : its.length ≤ 1100) :
    Calls Tryz.prog 152 #[.agg #[.bool L, .slice ai its.length ci, .slice ak 0 ck]] w fun e w' => ∃ v, e = .returned (.agg #[.bool L, v]) ∧ OwnD w.heap.size w' v its ∧ Below w.heap.size w w' := by
  have HR := hide hr
  have HL := hide hl
  clear hr hl
  go_enter Tryz.func152, Tryz.ntmps152
  go_wp2
  have HD0 := hide (Dw.new w L ai its.length ci ak ck)
  generalize (((w.alloc (.cells #[.bool L, .slice ai its.length ci, .slice ak 0 ck] 38)).alloc (.cells #[.bool false, .slice none 0 0] 190)).alloc (.cells #[.bool L, .slice none 0 0] 190)) = w1 at *
  go_loopw [14] (fun t wr => ∃ (k : Nat) (v : Value), k ≤ its.length ∧ t = .int .i64 (k : Int) ∧ Dw w wr L ai its.length ci ak ck v (its.take k)) (fun t _ => its.length - (intOf t).toNat)
  case atStart => exact ⟨0, _, Nat.zero_le _, rfl, unhide HD0⟩
  case round =>
    obtain ⟨k, v, hk, rfl, hD⟩ := hrel
    have HD := hide hD
    by_cases hlt : k < its.length
    · obtain ⟨b, off, rfl, hr⟩ := ((unhide HR).grow hD.bel).at hlt
      obtain ⟨⟨key, val⟩, hx⟩ := L6.get_some hlt
      obtain ⟨c0, c1⟩ := hr k _ hx
      simp only [itV] at c0 c1
      have hlen : (its.take k).length = k := by rw [List.length_take]; omega
      have hD2 := hD.grow (below_alloc wr (.cells #[.string key, .string val] 58))
      obtain ⟨_, g0, g1, gf, _, _, _⟩ := hD2.facts
      have HD2 := hide hD2
      have HX : Hid (its.take (k + 1) = its.take k ++ [(key, val)]) := by
        show _ = _
        rw [take_next hlt, (List.getElem?_eq_some_iff.1 hx).2]
      have HOw : Hid (((wr.alloc (.cells #[.string key, .string val] 58)).ownsRow (w.heap.size + 3) 192 6 v k ((its.take k).flatMap entI))) := by
        have h1 : OwnD _ _ _ _ := hD2.own
        unfold OwnD at h1
        rw [hlen] at h1
        exact h1
      have HLN := hide hlen
      have hL1 := unhide HL
      clear hr hx hD hD2 hlen
      obtain ⟨j0, hi, hz0, hz1, hz2⟩ := info_parts info192
      go_wp2_with (first
        | (at_builtin; refine wpList_append_own_at _ rfl _ _ 185 rfl (w.heap.size + 3) 192 j0 (.agg #[.string ⟨#[]⟩, .string ⟨#[]⟩, .int .i64 0, .bool false, .slice none 0 0, .int .i64 0]) 6 80 Tryz.underlying185 hi hz0 hz1 hz2 rfl (by decide) v k ((its.take k).flatMap entI) rfl (World.ownsRow.alloc (unhide HOw) _) ⟨wr.heap.size + 1, 0, none⟩ 1 1 (entI (key, val)) rfl rfl (fun j u hj => by rw [Go.WideShapes.add_plain, Nat.zero_add]; simpa [entI] using hj) (by simp [entI, Value.oneCell']) (by unfold maxLen; omega) (by omega) (by rw [World.size_alloc, World.size_alloc]; have := (unhide HD2).siz; rw [World.size_alloc] at this; omega) ?_; intro v' w5 hown' hgrow _ _; obtain ⟨g', cap', rfl⟩ := ownsRow_succ hown'; obtain ⟨ha, hc, hf⟩ := (unhide HD2).app (x := (key, val)) (by rw [unhide HLN]; exact hown') hgrow; have HA := hide ha; clear hown' hgrow ha))
      refine ⟨⟨k + 1, _, hlt, by go_num, by rw [unhide HX]; exact unhide HA⟩, ?_⟩
      show its.length - (k + 1) < its.length - k
      omega
    · have hke : k = its.length := by omega
      subst hke
      rw [List.take_length] at hD
      obtain ⟨va, vc, rfl⟩ := L6.ownsRow_form hD.own
      obtain ⟨x0, g0, g1, gf, r0, r1, rf⟩ := hD.facts
      have HD3 := hide hD
      clear hD HD
      go_wp2
      refine wp_loop_rounds 1 ?_
      rw [rounds_succ]
      go_wp2
      refine bodyPost_ret (v := .agg #[.bool L, .slice va its.length vc]) ?_ rfl ?_
      · rw [results_cell rfl]
        go_simp
      · have hh := unhide HD3
        refine ⟨_, rfl, ?_, L6.below_store (L6.below_store hh.bel (w.heap.size + 1) 0 _ (by omega)) (w.heap.size + 1) 1 _ (by omega)⟩
        exact (ownsRow_setCell_other (ownsRow_setCell_other hh.own (fun e => by have := (World.ownsRow.lt hh.own _ e).1; simp only at this; omega) _) (fun e => by have := (World.ownsRow.lt hh.own _ e).1; simp only at this; omega) _ |> fun h => L6.ownsRow_base h (by omega))
end Go.Proofs.YtdelobaiicoogaaGreatDoor
