/- Texts that the proof needs, one behind the other. -/
import Derived.Test.YtlmgmdnmghgkbaaGreatDoorMai
import Derived.Test.YtlmgmdnmghgkbaaGreatDoorMaf
import Derived.OwnWalk
import Derived.Test.YtlmgmdnmghgkbaaGreatDoorMag
/- The law's nodes: leaves of a number, nodes of kids. -/
namespace Go.Proofs.YtlmgmdnmghgkbaaGreatDoor
open Go.ChangeShapes Go.WideShapes Go.ChangeAt Go.RowKit
open L6 (takeY takeN Nblk)

theorem results_cell {fn : Func} {p : Tmp} {ty : TypeId} (h : fn.results = #[.cell p ty]) (tmps : Array Value) (P : Program) (w : World) :
    (results fn tmps).run P w = ((asAddr (tmps.getD p undef)).run P w).andThen fun a w₁ => (loadVar ty a).run P w₁ := by
  simp only [results, h]
  simp [Sem.run_bind, Result.andThen]
def leafN (n : Int) : L6.Nd := ⟨true, [(strOfNums [107, n % 256, n / 256 % 256], ⟨#[118]⟩)], []⟩
/-- in new memory -/
def Fresh (w : World) (a : Option Addr) : Prop := ∀ x, a = some x → w.heap.size ≤ x.block
theorem Fresh.none (w : World) : Fresh w none := fun _ h => by cases h
def NodeSaid (n : L6.Nd) (w : World) (x : Ending) (w' : World) : Prop := ∃ (ai ak : Option Addr) (ci ck : Nat), x = .returned (.agg #[.bool n.leaf, .slice ai n.its.length ci, .slice ak n.kds.length ck]) ∧ L6.Has w' n ai ak ∧ Below w.heap.size w w' ∧ Fresh w ai ∧ Fresh w ak
set_option maxHeartbeats 1000000 in
set_option maxRecDepth 20000 in
theorem leaf_any (n : Int) (w : World) : Calls Tryz.prog 45 #[.int .i64 n] w fun x w' => NodeSaid (leafN n) w x w' := by
  have h3 := L4.three_conv (w.alloc (.cells #[.bool false, .slice none 0 0, .slice none 0 0] 43)) 107 (n % 256) (n / 256 % 256)
  rw [World.size_alloc] at h3
  go_enter Tryz.func45, Tryz.ntmps45
  go_wp2
  refine bodyPost_ret (v := .agg #[.bool true, .slice (some ⟨w.heap.size + 1 + 1, 0, none⟩) 1 1, .slice none 0 0]) ?_ rfl ?_
  · rw [results_cell rfl]
    go_simp
  · refine ⟨some ⟨w.heap.size + 1 + 1, 0, none⟩, none, 1, 0, rfl, ⟨.inr ⟨w.heap.size + 1 + 1, 0, rfl, ?_⟩, .inl rfl⟩, ?_, fun x hx => by injection hx with hx; rw [← hx]; show w.heap.size ≤ w.heap.size + 1 + 1; omega, Fresh.none w⟩
    · intro i x hx
      match i, hx with
      | 0, hx =>
        simp [leafN] at hx
        subst hx
        constructor <;> go_simp
      | i + 1, hx => simp [leafN] at hx
    · exact (((Below.refl _ _).alloc (Nat.le_refl _) _).alloc (by simp) _).alloc (by simp; omega) _

/-! nodes of kids -/
def kdAt (i : Nat) (x : Int) : L6.Kd := (strOfNums [IntKind.u8.wrap ((i : Int) / 256), IntKind.u8.wrap (i : Int)], x)
def innerK (ks : List Int) : List L6.Kd := ks.mapIdx kdAt
def innerN (ks : List Int) : L6.Nd := ⟨false, [], innerK ks⟩
theorem innerK_len (ks : List Int) : (innerK ks).length = ks.length := List.length_mapIdx
theorem innerK_next (ks : List Int) (k : Nat) (X : Int) (h : ks[k]? = some X) : innerK (ks.take (k + 1)) = innerK (ks.take k) ++ [kdAt k X] := by
  unfold innerK
  rw [List.take_add_one, h]
  simp only [Option.toList_some]
  rw [List.mapIdx_concat]
  have : (ks.take k).length = k := by rw [List.length_take]; have := (List.getElem?_eq_some_iff.1 h).1; omega
  rw [this]
/-- numbers in a row -/
def Irow (w : World) (a : Option Addr) (l : List Int) : Prop := l = [] ∨ ∃ b off, a = some ⟨b, off, none⟩ ∧ ∀ i x, l[i]? = some x → w.cell? ⟨b, off + i, none⟩ = some (.int .i64 x)
theorem Irow.grow {w w' : World} {a : Option Addr} {l : List Int} (h : Irow w a l) (hb : Below w.heap.size w w') : Irow w' a l := by
  rcases h with h | ⟨b, off, e, hh⟩
  · exact .inl h
  · exact .inr ⟨b, off, e, fun i x hx => L6.cell_keep (hh i x hx) hb⟩
theorem two_conv (w : World) (a b : Int) :
    (convert 68 9 (.slice (some ⟨w.heap.size, 0, none⟩) 2 2)).run Tryz.prog (w.alloc (.cells #[.int .u8 a, .int .u8 b] 5)).drew = .ok (.string (strOfNums [a, b])) (w.alloc (.cells #[.int .u8 a, .int .u8 b] 5)).drew :=
  run_convert_bytes_arg _ 68 5 Tryz.underlying68 Tryz.underlying5 w.heap.size 0 2 2 [a, b] (by simp) (fun i hi => by
    have e : i = 0 ∨ i = 1 := by omega
    rcases e with rfl | rfl <;> simp) 9 Tryz.underlying9
theorem pair_one {s : ByteArray} {x : Value} (h : x.oneCell' = true) : ∀ u ∈ [Value.string s, x], u.oneCell' = true := by
  intro u hu
  simp at hu
  rcases hu with rfl | rfl
  · rfl
  · exact h
structure Ind (W : World) (p q B : Nat) (wr : World) (ak : Option Addr) (kl ck : Nat) : Prop where
  bel : Below W.heap.size W wr
  res : Nblk wr p false none 0 0 none 0 0
  nd : Nblk wr q false none 0 0 ak kl ck
  ne : p ≠ q
  lp : W.heap.size ≤ p
  lq : W.heap.size ≤ q
  lb : W.heap.size ≤ B
  bz : B ≤ wr.heap.size
variable {W wr w' : World} {p q B : Nat} {ak : Option Addr} {kl ck : Nat}
theorem Ind.grow (h : Ind W p q B wr ak kl ck) (hb : Below wr.heap.size wr w') : Ind W p q B w' ak kl ck :=
  ⟨below_then h.bel hb, h.res.below hb, h.nd.below hb, h.ne, h.lp, h.lq, h.lb, Nat.le_trans h.bz hb.size⟩
theorem Ind.app {v : Value} {l : List L6.Kd} (h : Ind W p q B wr ak kl ck) (ho : L6.OwnE L6.kv 153 B wr v l) (h25 : (153 : TypeId) ≠ 43) (hg : wr.grownBy w' v.ownBlock) : Ind W p q B w' ak kl ck :=
  ⟨h.bel.grown hg h.bel.size (fun k hk => by have := (World.ownsRow.lt ho k hk).1; have := h.lb; omega),
    (hg.block p h.res.lt (ho.other h.res h25).symm).trans h.res, (hg.block q h.nd.lt (ho.other h.nd h25).symm).trans h.nd, h.ne, h.lp, h.lq, h.lb, Nat.le_trans h.bz hg.size⟩
theorem Ind.set2 (h : Ind W p q B wr ak kl ck) (a : Option Addr) (n c : Nat) : Ind W p q B (wr.setCell ⟨q, 2, none⟩ (.slice a n c)) a n c :=
  ⟨h.bel.setCell h.lq _, (Below.heap_setCell wr ⟨q, 2, none⟩ _ p h.ne).trans h.res, h.nd.set2 a n c, h.ne, h.lp, h.lq, h.lb, by have := h.bz; simpa [World.setCell] using this⟩
set_option maxHeartbeats 4000000 in
set_option maxRecDepth 20000 in
theorem inner_any (ks : List Int) (a0 : Option Addr) (cap0 : Nat) (w : World) (hk : Irow w a0 ks) (hl : ks.length ≤ 1000) :
    Calls Tryz.prog 46 #[.slice a0 ks.length cap0] w fun x w' => NodeSaid (innerN ks) w x w' := by
  have HK := hide hk
  have HL := hide hl
  have hb0 := below_alloc w (.cells #[.bool false, .slice none 0 0, .slice none 0 0] 43)
  have hb1 := below_alloc (w.alloc (.cells #[.bool false, .slice none 0 0, .slice none 0 0] 43)) (.cells #[.bool false, .slice none 0 0, .slice none 0 0] 43)
  have hq := Nblk.new (w.alloc (.cells #[.bool false, .slice none 0 0, .slice none 0 0] 43)) false none none 0 0 0 0
  rw [World.size_alloc] at hq
  have HI : Hid (Ind w w.heap.size (w.heap.size + 1) w.heap.size ((w.alloc (.cells #[.bool false, .slice none 0 0, .slice none 0 0] 43)).alloc (.cells #[.bool false, .slice none 0 0, .slice none 0 0] 43)) none 0 0) :=
    ⟨below_then hb0 hb1, (Nblk.new w false none none 0 0 0 0).below hb1, hq, by omega, Nat.le_refl _, by omega, Nat.le_refl _, (below_then hb0 hb1).size⟩
  clear hk hl hb0 hb1 hq
  obtain ⟨B, hB⟩ : ∃ x, x = w.heap.size := ⟨_, rfl⟩
  obtain ⟨p, hp⟩ : ∃ x, x = w.heap.size := ⟨_, rfl⟩
  obtain ⟨q, hq⟩ : ∃ x, x = w.heap.size + 1 := ⟨_, rfl⟩
  have HI2 : Hid (Ind w p q B ((w.alloc (.cells #[.bool false, .slice none 0 0, .slice none 0 0] 43)).alloc (.cells #[.bool false, .slice none 0 0, .slice none 0 0] 43)) none 0 0) := by rw [hp, hq, hB]; exact unhide HI
  clear HI
  have HPE := hide hp
  go_enter Tryz.func46, Tryz.ntmps46
  go_wp2_with fail
  rw [← hq, ← hp]
  clear hB hp hq
  generalize (w.alloc (.cells #[.bool false, .slice none 0 0, .slice none 0 0] 43)).alloc (.cells #[.bool false, .slice none 0 0, .slice none 0 0] 43) = w0 at *
  go_loopw [4] (fun t wr => ∃ (k : Nat) (a : Option Addr) (cap : Nat), k ≤ ks.length ∧ t = .int .i64 (k : Int) ∧ L6.OwnE L6.kv 153 B wr (.slice a k cap) (innerK (ks.take k)) ∧ Ind w p q B wr a k cap) (fun t _ => ks.length - (intOf t).toNat)
  case atStart => exact ⟨0, none, 0, Nat.zero_le _, rfl, L6.OwnE.nil _ _ _ _, unhide HI2⟩
  case round =>
    clear HI2
    obtain ⟨k, a, cap, hk, rfl, ho, hd⟩ := hrel
    by_cases hlt : k < ks.length
    · obtain ⟨b, off, rfl, hcell⟩ : ∃ b off, a0 = some ⟨b, off, none⟩ ∧ ∀ i x, ks[i]? = some x → w.cell? ⟨b, off + i, none⟩ = some (.int .i64 x) := by
        rcases unhide HK with h | h
        · subst h; simp at hlt
        · exact h
      obtain ⟨X, hX⟩ : ∃ X, ks[k]? = some X := ⟨_, List.getElem?_eq_getElem hlt⟩
      have HKW := hide (hcell k X hX)
      have hnx := innerK_next ks k X hX
      have HNX := hide hnx
      have hlk : (innerK (ks.take k)).length = k := by rw [innerK_len, List.length_take]; omega
      have HLK := hide hlk
      have HDA := hide (hd.grow (below_drew wr))
      have HOA := hide (ho.below (below_drew wr))
      have hlt' : (k : Int) < (ks.length : Int) := by omega
      clear hcell hX hnx hlk hd ho
      have hL0 := unhide HL
      go_wp2_with fail
      refine wp_region_noPanic ?_
      refine wp_region_held_drew (S := fun w' => w'.cell? ⟨b, off + k, none⟩ = some (.int .i64 X)) (by kernel_rfl) (L6.cell_keep (unhide HKW) (unhide HDA).bel) (fun hHeld => ?_)
      refine takeY 0 (some 11) ?_ rfl rfl (by kernel_rfl) (by kernel_rfl) (by kernel_rfl) (fun _ _ _ h => h) (by rfl) ?_ hHeld ?_
      rotate_left
      · intro w hSw; (try dsimp only at hSw); go_simp <;> with_reducible rfl
      simp only [Act.put, List.setIfInBounds_toArray, List.set_cons_zero, List.set_cons_succ]
      refine takeY 2 (some 13) ?_ rfl rfl (by kernel_rfl) (by kernel_rfl) (by kernel_rfl) (fun _ _ _ h => h) (by rfl) ?_ hHeld ?_
      rotate_left
      · intro w hSw; (try dsimp only at hSw); go_simp <;> with_reducible rfl
      simp only [Act.put, List.setIfInBounds_toArray, List.set_cons_zero, List.set_cons_succ]
      refine takeY 3 (some 14) ?_ rfl rfl (by kernel_rfl) (by kernel_rfl) (by kernel_rfl) (fun _ _ _ h => h) (by rfl) ?_ hHeld ?_
      rotate_left
      · intro w hSw; (try dsimp only at hSw); go_simp <;> with_reducible rfl
      simp only [Act.put, List.setIfInBounds_toArray, List.set_cons_zero, List.set_cons_succ]
      refine takeY 4 (some 15) ?_ rfl rfl (by kernel_rfl) (by kernel_rfl) (by kernel_rfl) (fun _ _ _ h => h) (by rfl) ?_ hHeld ?_
      rotate_left
      · intro w hSw; (try dsimp only at hSw); go_simp <;> with_reducible rfl
      simp only [Act.put, List.setIfInBounds_toArray, List.set_cons_zero, List.set_cons_succ]
      refine takeY 5 (some 16) ?_ rfl rfl (by kernel_rfl) (by kernel_rfl) (by kernel_rfl) (fun _ _ _ h => h) (by rfl) ?_ hHeld ?_
      rotate_left
      · intro w hSw; (try dsimp only at hSw); go_simp <;> with_reducible rfl
      simp only [Act.put, List.setIfInBounds_toArray, List.set_cons_zero, List.set_cons_succ]
      refine takeY 6 (some 17) ?_ rfl rfl (by kernel_rfl) (by kernel_rfl) (by kernel_rfl) (fun _ _ _ h => h) (by rfl) ?_ hHeld ?_
      rotate_left
      · intro w hSw; (try dsimp only at hSw); go_simp <;> with_reducible rfl
      simp only [Act.put, List.setIfInBounds_toArray, List.set_cons_zero, List.set_cons_succ]
      refine takeY 9 (some 20) ?_ rfl rfl (by kernel_rfl) (by kernel_rfl) (by kernel_rfl) (fun _ _ _ h => h) (by rfl) ?_ hHeld ?_
      rotate_left
      · intro w hSw; (try dsimp only at hSw); go_simp <;> with_reducible rfl
      simp only [Act.put, List.setIfInBounds_toArray, List.set_cons_zero, List.set_cons_succ]
      refine takeY 10 (some 21) ?_ rfl rfl (by kernel_rfl) (by kernel_rfl) (by kernel_rfl) (fun _ _ _ h => h) (by rfl) ?_ hHeld ?_
      rotate_left
      · intro w hSw; (try dsimp only at hSw); go_simp <;> with_reducible rfl
      simp only [Act.put, List.setIfInBounds_toArray, List.set_cons_zero, List.set_cons_succ]
      refine takeY 11 (some 22) ?_ rfl rfl (by kernel_rfl) (by kernel_rfl) (by kernel_rfl) (fun _ _ _ h => h) (by rfl) ?_ hHeld ?_
      rotate_left
      · intro w hSw; (try dsimp only at hSw); go_simp <;> with_reducible rfl
      simp only [Act.put, List.setIfInBounds_toArray, List.set_cons_zero, List.set_cons_succ]
      refine takeY 12 (some 23) ?_ rfl rfl (by kernel_rfl) (by kernel_rfl) (by kernel_rfl) (fun _ _ _ h => h) (by rfl) ?_ hHeld ?_
      rotate_left
      · intro w hSw; (try dsimp only at hSw); go_simp <;> with_reducible rfl
      simp only [Act.put, List.setIfInBounds_toArray, List.set_cons_zero, List.set_cons_succ]
      refine wpAnyH_ready (rs := [1, 7]) (by kernel_rfl) (by simp) ?_
      refine AllReadyH.cons rfl (fun K hK => ?_) (AllReadyH.cons rfl (fun K hK => ?_) AllReadyH.nil)
      · have m2 := (unhide HDA).nd.cell2
        go_simp
        refine hK.out _ _ (L6.cell_keep (unhide HKW) (unhide HDA).bel) (fun hHeld => ?_)
        clear hK K
        try simp only [Act.put, List.setIfInBounds_toArray, List.set_cons_zero, List.set_cons_succ]
        refine wpAnyH_ready (rs := [7]) (by kernel_rfl) (by simp) ?_
        refine AllReadyH.cons rfl (fun K hK => ?_) AllReadyH.nil
        go_simp
        have HDB : Hid (Ind w p q B (wr.alloc (.cells #[.int .u8 (IntKind.u8.wrap ((k : Int) / 256)), .int .u8 (IntKind.u8.wrap (k : Int))] 5)).drew a k cap) := ((unhide HDA).grow (below_alloc wr.drew (.cells #[.int .u8 (IntKind.u8.wrap ((k : Int) / 256)), .int .u8 (IntKind.u8.wrap (k : Int))] 5)))
        have HOB : Hid (L6.OwnE L6.kv 153 B (wr.alloc (.cells #[.int .u8 (IntKind.u8.wrap ((k : Int) / 256)), .int .u8 (IntKind.u8.wrap (k : Int))] 5)).drew (.slice a k cap) (innerK (ks.take k))) := ((unhide HOA).below (below_alloc wr.drew (.cells #[.int .u8 (IntKind.u8.wrap ((k : Int) / 256)), .int .u8 (IntKind.u8.wrap (k : Int))] 5)))
        have hc2 : Sem.run Tryz.prog (convert 68 9 (.slice (some ⟨wr.heap.size, 0, none⟩) 2 2)) (wr.alloc (.cells #[.int .u8 (IntKind.u8.wrap ((k : Int) / 256)), .int .u8 (IntKind.u8.wrap (k : Int))] 5)).drew = .ok (.string (strOfNums [IntKind.u8.wrap ((k : Int) / 256), IntKind.u8.wrap (k : Int)])) (wr.alloc (.cells #[.int .u8 (IntKind.u8.wrap ((k : Int) / 256)), .int .u8 (IntKind.u8.wrap (k : Int))] 5)).drew := two_conv wr (IntKind.u8.wrap ((k : Int) / 256)) (IntKind.u8.wrap (k : Int))
        refine hK.out _ _ (L6.cell_keep (unhide HKW) (unhide HDB).bel) (fun hHeld => ?_)
        clear hK K
        try simp only [Act.put, List.setIfInBounds_toArray, List.set_cons_zero, List.set_cons_succ]
        generalize (wr.alloc (.cells #[.int .u8 (IntKind.u8.wrap ((k : Int) / 256)), .int .u8 (IntKind.u8.wrap (k : Int))] 5)).drew = wB at *
        refine wpAnyH_ready (rs := [8]) (by kernel_rfl) (by simp) ?_
        refine AllReadyH.cons rfl (fun K hK => ?_) AllReadyH.nil
        go_simp
        refine hK.out _ _ (L6.cell_keep (unhide HKW) (unhide HDB).bel) (fun hHeld => ?_)
        clear hK K
        try simp only [Act.put, List.setIfInBounds_toArray, List.set_cons_zero, List.set_cons_succ]
        refine takeY 13 (some 24) ?_ rfl rfl (by kernel_rfl) (by kernel_rfl) (by kernel_rfl) (fun _ _ _ h => h) (by rfl) ?_ hHeld ?_
        rotate_left
        · intro w hSw; (try dsimp only at hSw); go_simp <;> with_reducible rfl
        simp only [Act.put, List.setIfInBounds_toArray, List.set_cons_zero, List.set_cons_succ]
        refine wpAnyH_ready (rs := [14]) (by kernel_rfl) (by simp) ?_
        refine AllReadyH.cons rfl (fun K hK => ?_) AllReadyH.nil
        go_simp
        have TM : (wB.alloc (.cells #[.string (strOfNums [IntKind.u8.wrap ((k : Int) / 256), IntKind.u8.wrap (k : Int)]), .int .i64 X] 153)).cell? ⟨q, 2, none⟩ = some (.slice a k cap) := L6.cell_keep (unhide HDB).nd.cell2 (below_alloc _ _)
        refine hK.out _ _ (L6.cell_keep (unhide HKW) (below_then (unhide HDB).bel (below_alloc _ _))) (fun hHeld => ?_)
        clear hK K
        try simp only [Act.put, List.setIfInBounds_toArray, List.set_cons_zero, List.set_cons_succ]
        refine wpAnyH_ready (rs := [15]) (by kernel_rfl) (by simp) ?_
        refine AllReadyH.cons rfl (fun K hK => ?_) AllReadyH.nil
        refine L6.step_gen (wr := wB) (v := .slice a k cap) (n := k) (xs := L6.pairs L6.kv (innerK (ks.take k))) (news := [.string (strOfNums [IntKind.u8.wrap ((k : Int) / 256), IntKind.u8.wrap (k : Int)]), .int .i64 X]) rfl Tryz.underlying41 L6.info153 rfl (by decide) _ _ rfl rfl rfl (by have h1 := unhide HOB; unfold L6.OwnE at h1; rw [unhide HLK] at h1; exact h1) (unhide HDB).bz rfl (pair_one rfl) (by have := unhide HL; omega) (by have := unhide HL; omega) ?_
        intro aC capC wC hownC hgC _
        have HDC := hide ((unhide HDB).app (unhide HOB) (by decide) hgC)
        have HOC : Hid (L6.OwnE L6.kv 153 B wC (.slice aC (k + 1) capC) (innerK (ks.take (k + 1)))) := by
          rw [unhide HNX]
          exact L6.OwnE.snoc (by rw [unhide HLK]; exact hownC)
        have mC := (unhide HDC).nd.cell2
        have fC := (unhide HDC).nd.free 2
        clear hownC hgC
        refine hK.out _ _ (L6.cell_keep (unhide HKW) (unhide HDC).bel) (fun hHeld => ?_)
        clear hK K
        try simp only [Act.put, List.setIfInBounds_toArray]
        refine takeY 16 (some 27) ?_ rfl rfl (by kernel_rfl) (by kernel_rfl) (by kernel_rfl) (fun _ _ _ h => h) (by rfl) ?_ hHeld ?_
        rotate_left
        · intro w hSw; (try dsimp only at hSw); go_simp <;> with_reducible rfl
        simp only [Act.put]
        refine wpAnyH_ready (rs := [17]) (by kernel_rfl) (by simp) ?_
        refine AllReadyH.cons rfl (fun K hK => ?_) AllReadyH.nil
        go_simp
        have HD9 := hide ((unhide HDC).set2 aC (k + 1) capC)
        have HO9 := hide (L6.OwnE.set (unhide HOC) (unhide HDC).nd (by decide) 2 (.slice aC (k + 1) capC))
        refine hK.out _ _ (L6.cell_keep (unhide HKW) (unhide HD9).bel) (fun hHeld => ?_)
        clear hK K
        try simp only [Act.put]
        refine wpAnyH_done (by kernel_rfl) ?_ _
        refine NoPanic.normal ?_
        clear HDC HOC HDB HOB mC fC
        have hL1 := unhide HL
        go_wp2
        go_roundw
        case rel => exact ⟨k + 1, aC, capC, by omega, by go_num, unhide HO9, unhide HD9⟩
        case measure => simp [intOf]; omega
      · go_simp
        have HDB : Hid (Ind w p q B (wr.alloc (.cells #[.int .u8 (IntKind.u8.wrap ((k : Int) / 256)), .int .u8 (IntKind.u8.wrap (k : Int))] 5)).drew a k cap) := ((unhide HDA).grow (below_alloc wr.drew (.cells #[.int .u8 (IntKind.u8.wrap ((k : Int) / 256)), .int .u8 (IntKind.u8.wrap (k : Int))] 5)))
        have HOB : Hid (L6.OwnE L6.kv 153 B (wr.alloc (.cells #[.int .u8 (IntKind.u8.wrap ((k : Int) / 256)), .int .u8 (IntKind.u8.wrap (k : Int))] 5)).drew (.slice a k cap) (innerK (ks.take k))) := ((unhide HOA).below (below_alloc wr.drew (.cells #[.int .u8 (IntKind.u8.wrap ((k : Int) / 256)), .int .u8 (IntKind.u8.wrap (k : Int))] 5)))
        have hc2 : Sem.run Tryz.prog (convert 68 9 (.slice (some ⟨wr.heap.size, 0, none⟩) 2 2)) (wr.alloc (.cells #[.int .u8 (IntKind.u8.wrap ((k : Int) / 256)), .int .u8 (IntKind.u8.wrap (k : Int))] 5)).drew = .ok (.string (strOfNums [IntKind.u8.wrap ((k : Int) / 256), IntKind.u8.wrap (k : Int)])) (wr.alloc (.cells #[.int .u8 (IntKind.u8.wrap ((k : Int) / 256)), .int .u8 (IntKind.u8.wrap (k : Int))] 5)).drew := two_conv wr (IntKind.u8.wrap ((k : Int) / 256)) (IntKind.u8.wrap (k : Int))
        refine hK.out _ _ (L6.cell_keep (unhide HKW) (unhide HDB).bel) (fun hHeld => ?_)
        clear hK K
        try simp only [Act.put, List.setIfInBounds_toArray, List.set_cons_zero, List.set_cons_succ]
        generalize (wr.alloc (.cells #[.int .u8 (IntKind.u8.wrap ((k : Int) / 256)), .int .u8 (IntKind.u8.wrap (k : Int))] 5)).drew = wB at *
        refine wpAnyH_ready (rs := [1, 8]) (by kernel_rfl) (by simp) ?_
        refine AllReadyH.cons rfl (fun K hK => ?_) (AllReadyH.cons rfl (fun K hK => ?_) AllReadyH.nil)
        · have m2 := (unhide HDB).nd.cell2
          go_simp
          refine hK.out _ _ (L6.cell_keep (unhide HKW) (unhide HDB).bel) (fun hHeld => ?_)
          clear hK K
          try simp only [Act.put, List.setIfInBounds_toArray, List.set_cons_zero, List.set_cons_succ]
          refine wpAnyH_ready (rs := [8]) (by kernel_rfl) (by simp) ?_
          refine AllReadyH.cons rfl (fun K hK => ?_) AllReadyH.nil
          go_simp
          refine hK.out _ _ (L6.cell_keep (unhide HKW) (unhide HDB).bel) (fun hHeld => ?_)
          clear hK K
          try simp only [Act.put, List.setIfInBounds_toArray, List.set_cons_zero, List.set_cons_succ]
          refine takeY 13 (some 24) ?_ rfl rfl (by kernel_rfl) (by kernel_rfl) (by kernel_rfl) (fun _ _ _ h => h) (by rfl) ?_ hHeld ?_
          rotate_left
          · intro w hSw; (try dsimp only at hSw); go_simp <;> with_reducible rfl
          simp only [Act.put, List.setIfInBounds_toArray, List.set_cons_zero, List.set_cons_succ]
          refine wpAnyH_ready (rs := [14]) (by kernel_rfl) (by simp) ?_
          refine AllReadyH.cons rfl (fun K hK => ?_) AllReadyH.nil
          go_simp
          have TM : (wB.alloc (.cells #[.string (strOfNums [IntKind.u8.wrap ((k : Int) / 256), IntKind.u8.wrap (k : Int)]), .int .i64 X] 153)).cell? ⟨q, 2, none⟩ = some (.slice a k cap) := L6.cell_keep (unhide HDB).nd.cell2 (below_alloc _ _)
          refine hK.out _ _ (L6.cell_keep (unhide HKW) (below_then (unhide HDB).bel (below_alloc _ _))) (fun hHeld => ?_)
          clear hK K
          try simp only [Act.put, List.setIfInBounds_toArray, List.set_cons_zero, List.set_cons_succ]
          refine wpAnyH_ready (rs := [15]) (by kernel_rfl) (by simp) ?_
          refine AllReadyH.cons rfl (fun K hK => ?_) AllReadyH.nil
          refine L6.step_gen (wr := wB) (v := .slice a k cap) (n := k) (xs := L6.pairs L6.kv (innerK (ks.take k))) (news := [.string (strOfNums [IntKind.u8.wrap ((k : Int) / 256), IntKind.u8.wrap (k : Int)]), .int .i64 X]) rfl Tryz.underlying41 L6.info153 rfl (by decide) _ _ rfl rfl rfl (by have h1 := unhide HOB; unfold L6.OwnE at h1; rw [unhide HLK] at h1; exact h1) (unhide HDB).bz rfl (pair_one rfl) (by have := unhide HL; omega) (by have := unhide HL; omega) ?_
          intro aC capC wC hownC hgC _
          have HDC := hide ((unhide HDB).app (unhide HOB) (by decide) hgC)
          have HOC : Hid (L6.OwnE L6.kv 153 B wC (.slice aC (k + 1) capC) (innerK (ks.take (k + 1)))) := by
            rw [unhide HNX]
            exact L6.OwnE.snoc (by rw [unhide HLK]; exact hownC)
          have mC := (unhide HDC).nd.cell2
          have fC := (unhide HDC).nd.free 2
          clear hownC hgC
          refine hK.out _ _ (L6.cell_keep (unhide HKW) (unhide HDC).bel) (fun hHeld => ?_)
          clear hK K
          try simp only [Act.put, List.setIfInBounds_toArray]
          refine takeY 16 (some 27) ?_ rfl rfl (by kernel_rfl) (by kernel_rfl) (by kernel_rfl) (fun _ _ _ h => h) (by rfl) ?_ hHeld ?_
          rotate_left
          · intro w hSw; (try dsimp only at hSw); go_simp <;> with_reducible rfl
          simp only [Act.put]
          refine wpAnyH_ready (rs := [17]) (by kernel_rfl) (by simp) ?_
          refine AllReadyH.cons rfl (fun K hK => ?_) AllReadyH.nil
          go_simp
          have HD9 := hide ((unhide HDC).set2 aC (k + 1) capC)
          have HO9 := hide (L6.OwnE.set (unhide HOC) (unhide HDC).nd (by decide) 2 (.slice aC (k + 1) capC))
          refine hK.out _ _ (L6.cell_keep (unhide HKW) (unhide HD9).bel) (fun hHeld => ?_)
          clear hK K
          try simp only [Act.put]
          refine wpAnyH_done (by kernel_rfl) ?_ _
          refine NoPanic.normal ?_
          clear HDC HOC HDB HOB mC fC
          have hL1 := unhide HL
          go_wp2
          go_roundw
          case rel => exact ⟨k + 1, aC, capC, by omega, by go_num, unhide HO9, unhide HD9⟩
          case measure => simp [intOf]; omega
        · go_simp
          refine hK.out _ _ (L6.cell_keep (unhide HKW) (unhide HDB).bel) (fun hHeld => ?_)
          clear hK K
          try simp only [Act.put, List.setIfInBounds_toArray, List.set_cons_zero, List.set_cons_succ]
          refine takeY 13 (some 24) ?_ rfl rfl (by kernel_rfl) (by kernel_rfl) (by kernel_rfl) (fun _ _ _ h => h) (by rfl) ?_ hHeld ?_
          rotate_left
          · intro w hSw; (try dsimp only at hSw); go_simp <;> with_reducible rfl
          simp only [Act.put, List.setIfInBounds_toArray, List.set_cons_zero, List.set_cons_succ]
          refine wpAnyH_ready (rs := [1, 14]) (by kernel_rfl) (by simp) ?_
          refine AllReadyH.cons rfl (fun K hK => ?_) (AllReadyH.cons rfl (fun K hK => ?_) AllReadyH.nil)
          · have m2 := (unhide HDB).nd.cell2
            go_simp
            refine hK.out _ _ (L6.cell_keep (unhide HKW) (unhide HDB).bel) (fun hHeld => ?_)
            clear hK K
            try simp only [Act.put, List.setIfInBounds_toArray, List.set_cons_zero, List.set_cons_succ]
            refine wpAnyH_ready (rs := [14]) (by kernel_rfl) (by simp) ?_
            refine AllReadyH.cons rfl (fun K hK => ?_) AllReadyH.nil
            go_simp
            have TM : (wB.alloc (.cells #[.string (strOfNums [IntKind.u8.wrap ((k : Int) / 256), IntKind.u8.wrap (k : Int)]), .int .i64 X] 153)).cell? ⟨q, 2, none⟩ = some (.slice a k cap) := L6.cell_keep (unhide HDB).nd.cell2 (below_alloc _ _)
            refine hK.out _ _ (L6.cell_keep (unhide HKW) (below_then (unhide HDB).bel (below_alloc _ _))) (fun hHeld => ?_)
            clear hK K
            try simp only [Act.put, List.setIfInBounds_toArray, List.set_cons_zero, List.set_cons_succ]
            refine wpAnyH_ready (rs := [15]) (by kernel_rfl) (by simp) ?_
            refine AllReadyH.cons rfl (fun K hK => ?_) AllReadyH.nil
            refine L6.step_gen (wr := wB) (v := .slice a k cap) (n := k) (xs := L6.pairs L6.kv (innerK (ks.take k))) (news := [.string (strOfNums [IntKind.u8.wrap ((k : Int) / 256), IntKind.u8.wrap (k : Int)]), .int .i64 X]) rfl Tryz.underlying41 L6.info153 rfl (by decide) _ _ rfl rfl rfl (by have h1 := unhide HOB; unfold L6.OwnE at h1; rw [unhide HLK] at h1; exact h1) (unhide HDB).bz rfl (pair_one rfl) (by have := unhide HL; omega) (by have := unhide HL; omega) ?_
            intro aC capC wC hownC hgC _
            have HDC := hide ((unhide HDB).app (unhide HOB) (by decide) hgC)
            have HOC : Hid (L6.OwnE L6.kv 153 B wC (.slice aC (k + 1) capC) (innerK (ks.take (k + 1)))) := by
              rw [unhide HNX]
              exact L6.OwnE.snoc (by rw [unhide HLK]; exact hownC)
            have mC := (unhide HDC).nd.cell2
            have fC := (unhide HDC).nd.free 2
            clear hownC hgC
            refine hK.out _ _ (L6.cell_keep (unhide HKW) (unhide HDC).bel) (fun hHeld => ?_)
            clear hK K
            try simp only [Act.put, List.setIfInBounds_toArray]
            refine takeY 16 (some 27) ?_ rfl rfl (by kernel_rfl) (by kernel_rfl) (by kernel_rfl) (fun _ _ _ h => h) (by rfl) ?_ hHeld ?_
            rotate_left
            · intro w hSw; (try dsimp only at hSw); go_simp <;> with_reducible rfl
            simp only [Act.put]
            refine wpAnyH_ready (rs := [17]) (by kernel_rfl) (by simp) ?_
            refine AllReadyH.cons rfl (fun K hK => ?_) AllReadyH.nil
            go_simp
            have HD9 := hide ((unhide HDC).set2 aC (k + 1) capC)
            have HO9 := hide (L6.OwnE.set (unhide HOC) (unhide HDC).nd (by decide) 2 (.slice aC (k + 1) capC))
            refine hK.out _ _ (L6.cell_keep (unhide HKW) (unhide HD9).bel) (fun hHeld => ?_)
            clear hK K
            try simp only [Act.put]
            refine wpAnyH_done (by kernel_rfl) ?_ _
            refine NoPanic.normal ?_
            clear HDC HOC HDB HOB mC fC
            have hL1 := unhide HL
            go_wp2
            go_roundw
            case rel => exact ⟨k + 1, aC, capC, by omega, by go_num, unhide HO9, unhide HD9⟩
            case measure => simp [intOf]; omega
          · go_simp
            have TM : (wB.alloc (.cells #[.string (strOfNums [IntKind.u8.wrap ((k : Int) / 256), IntKind.u8.wrap (k : Int)]), .int .i64 X] 153)).cell? ⟨q, 2, none⟩ = some (.slice a k cap) := L6.cell_keep (unhide HDB).nd.cell2 (below_alloc _ _)
            refine hK.out _ _ (L6.cell_keep (unhide HKW) (below_then (unhide HDB).bel (below_alloc _ _))) (fun hHeld => ?_)
            clear hK K
            try simp only [Act.put, List.setIfInBounds_toArray, List.set_cons_zero, List.set_cons_succ]
            refine wpAnyH_ready (rs := [1]) (by kernel_rfl) (by simp) ?_
            refine AllReadyH.cons rfl (fun K hK => ?_) AllReadyH.nil
            go_simp
            refine hK.out _ _ (L6.cell_keep (unhide HKW) (below_then (unhide HDB).bel (below_alloc _ _))) (fun hHeld => ?_)
            clear hK K
            try simp only [Act.put, List.setIfInBounds_toArray, List.set_cons_zero, List.set_cons_succ]
            refine wpAnyH_ready (rs := [15]) (by kernel_rfl) (by simp) ?_
            refine AllReadyH.cons rfl (fun K hK => ?_) AllReadyH.nil
            refine L6.step_gen (wr := wB) (v := .slice a k cap) (n := k) (xs := L6.pairs L6.kv (innerK (ks.take k))) (news := [.string (strOfNums [IntKind.u8.wrap ((k : Int) / 256), IntKind.u8.wrap (k : Int)]), .int .i64 X]) rfl Tryz.underlying41 L6.info153 rfl (by decide) _ _ rfl rfl rfl (by have h1 := unhide HOB; unfold L6.OwnE at h1; rw [unhide HLK] at h1; exact h1) (unhide HDB).bz rfl (pair_one rfl) (by have := unhide HL; omega) (by have := unhide HL; omega) ?_
            intro aC capC wC hownC hgC _
            have HDC := hide ((unhide HDB).app (unhide HOB) (by decide) hgC)
            have HOC : Hid (L6.OwnE L6.kv 153 B wC (.slice aC (k + 1) capC) (innerK (ks.take (k + 1)))) := by
              rw [unhide HNX]
              exact L6.OwnE.snoc (by rw [unhide HLK]; exact hownC)
            have mC := (unhide HDC).nd.cell2
            have fC := (unhide HDC).nd.free 2
            clear hownC hgC
            refine hK.out _ _ (L6.cell_keep (unhide HKW) (unhide HDC).bel) (fun hHeld => ?_)
            clear hK K
            try simp only [Act.put, List.setIfInBounds_toArray]
            refine takeY 16 (some 27) ?_ rfl rfl (by kernel_rfl) (by kernel_rfl) (by kernel_rfl) (fun _ _ _ h => h) (by rfl) ?_ hHeld ?_
            rotate_left
            · intro w hSw; (try dsimp only at hSw); go_simp <;> with_reducible rfl
            simp only [Act.put]
            refine wpAnyH_ready (rs := [17]) (by kernel_rfl) (by simp) ?_
            refine AllReadyH.cons rfl (fun K hK => ?_) AllReadyH.nil
            go_simp
            have HD9 := hide ((unhide HDC).set2 aC (k + 1) capC)
            have HO9 := hide (L6.OwnE.set (unhide HOC) (unhide HDC).nd (by decide) 2 (.slice aC (k + 1) capC))
            refine hK.out _ _ (L6.cell_keep (unhide HKW) (unhide HD9).bel) (fun hHeld => ?_)
            clear hK K
            try simp only [Act.put]
            refine wpAnyH_done (by kernel_rfl) ?_ _
            refine NoPanic.normal ?_
            clear HDC HOC HDB HOB mC fC
            have hL1 := unhide HL
            go_wp2
            go_roundw
            case rel => exact ⟨k + 1, aC, capC, by omega, by go_num, unhide HO9, unhide HD9⟩
            case measure => simp [intOf]; omega
    · obtain rfl : k = ks.length := by omega
      rw [List.take_length] at ho
      have c0 := hd.res.cell0
      have c1 := hd.res.cell1
      have c2 := hd.res.cell2
      have f0 := hd.res.free 0
      have f1 := hd.res.free 1
      have f2 := hd.res.free 2
      have d0 := hd.nd.cell0
      have d1 := hd.nd.cell1
      have d2 := hd.nd.cell2
      have HD := hide hd
      have HO := hide ho
      clear hd ho
      go_wp2
      have hst := (unhide HD).res.store false none 0 0 a ks.length cap (m := innerN ks) (bi := none) (bk := a) ⟨.inl rfl, (unhide HO).row⟩
      refine bodyPost_ret (v := .agg #[.bool false, .slice none 0 0, .slice a ks.length cap]) ?_ rfl ?_
      · rw [results_cell rfl]
        go_simp
      · have hpw : w.heap.size ≤ p := (unhide HD).lp
        refine ⟨none, a, 0, cap, ?_, hst.2, L6.below_store (L6.below_store (L6.below_store (unhide HD).bel p 0 _ hpw) p 1 _ hpw) p 2 _ hpw, Fresh.none w, fun x hx => ?_⟩
        rotate_left
        · rcases (unhide HO).2 with ⟨e, _⟩ | ⟨g, cap', cur, e, hg, _⟩
          · injection e with e1 _ _; rw [hx] at e1; cases e1
          · injection e with e1 _ _; rw [hx] at e1; injection e1 with e1; rw [e1]; exact Nat.le_trans (unhide HD).lb hg
        show _ = Ending.returned (.agg #[.bool false, .slice none 0 0, .slice a (innerK ks).length cap])
        rw [innerK_len]
end Go.Proofs.YtlmgmdnmghgkbaaGreatDoor

/- The document's disk in memory: what is asked of it, its power, a write. -/
namespace Go.Proofs.YtlmgmdnmghgkbaaGreatDoor.L3
open Go.ChangeShapes Go.WideShapes Go.ChangeAt Go.RowKit

def strs (l : List ByteArray) : List Value := l.map Value.string

structure RefAt (w : World) (r : Nat) (m : Dk) (ov pv : Value) : Prop where
  blk : w.heap[r]? = some (.cells #[ov, pv, .int .i64 m.left, .bool m.gone] 105 (0, 0))
  old : w.ownsRow 0 9 1 ov m.old.length (strs m.old)
  op : w.ownsRow 0 243 2 pv m.op.length (opCells m.op)
  ok : Ok m

def rfOf (r : Nat) (ov pv : Value) : List Nat := r :: (ov.ownBlock.toList ++ pv.ownBlock.toList)
def IsRef (w : World) (r : Nat) (m : Dk) (fp : List Nat) : Prop := ∃ ov pv, RefAt w r m ov pv ∧ fp = rfOf r ov pv
def RTurned (w w' : World) (r : Nat) (m' : Dk) (fp : List Nat) : Prop := ∃ fp', IsRef w' r m' fp' ∧ Moves fp w w' ∧ ∀ x ∈ fp', x ∈ fp ∨ w.heap.size ≤ x

variable {w w' : World} {r : Nat} {m : Dk} {ov pv : Value}

theorem RefAt.cell0 (h : RefAt w r m ov pv) : w.cell? ⟨r, 0, none⟩ = some ov := by simp [World.cell?, h.blk]
theorem RefAt.cell1 (h : RefAt w r m ov pv) : w.cell? ⟨r, 1, none⟩ = some pv := by simp [World.cell?, h.blk]
theorem RefAt.cell2 (h : RefAt w r m ov pv) : w.cell? ⟨r, 2, none⟩ = some (.int .i64 m.left) := by simp [World.cell?, h.blk]
theorem RefAt.cell3 (h : RefAt w r m ov pv) : w.cell? ⟨r, 3, none⟩ = some (.bool m.gone) := by simp [World.cell?, h.blk]
theorem RefAt.free (h : RefAt w r m ov pv) (i : Nat) : w.frozen? ⟨r, i, none⟩ = false := by simp [World.frozen?, h.blk]
theorem RefAt.rlt (h : RefAt w r m ov pv) : r < w.heap.size := (Array.getElem?_eq_some_iff.1 h.blk).1
theorem RefAt.no (h : RefAt w r m ov pv) : ov.ownBlock ≠ some r := by
  intro e
  obtain ⟨cur, h1⟩ := ownsRow_kind h.old e
  rw [h.blk] at h1
  simp at h1
theorem RefAt.np (h : RefAt w r m ov pv) : pv.ownBlock ≠ some r := by
  intro e
  obtain ⟨cur, h1⟩ := ownsRow_kind h.op e
  rw [h.blk] at h1
  simp at h1
theorem RefAt.nn (h : RefAt w r m ov pv) : ∀ g, ov.ownBlock = some g → pv.ownBlock ≠ some g := by
  intro g e1 e2
  obtain ⟨cur, h1⟩ := ownsRow_kind h.old e1
  obtain ⟨cur2, h2⟩ := ownsRow_kind h.op e2
  rw [h2] at h1
  simp at h1
theorem RefAt.lt (h : RefAt w r m ov pv) : ∀ x ∈ rfOf r ov pv, x < w.heap.size := by
  intro x hx
  simp [rfOf] at hx
  rcases hx with rfl | hx | hx
  · exact h.rlt
  · exact (h.old.lt x hx).2
  · exact (h.op.lt x hx).2
theorem RefAt.same (h : RefAt w r m ov pv) (hs : ∀ x ∈ rfOf r ov pv, w'.heap[x]? = w.heap[x]?) : RefAt w' r m ov pv :=
  ⟨(hs r (by simp [rfOf])).trans h.blk, ownsRow_same h.old (fun g hg => hs g (by simp [rfOf, hg])), ownsRow_same h.op (fun g hg => hs g (by simp [rfOf, hg])), h.ok⟩
theorem IsRef.keep {fp fq : List Nat} (h : IsRef w r m fp) (hm : Moves fq w w') (hd : ∀ x ∈ fp, x ∉ fq) : IsRef w' r m fp := by
  obtain ⟨ov, pv, h, rfl⟩ := h
  exact ⟨ov, pv, h.same (fun x hx => hm.block x (h.lt x hx) (hd x hx)), rfl⟩
theorem IsRef.grow {fp : List Nat} (h : IsRef w r m fp) (hm : Below w.heap.size w w') : IsRef w' r m fp :=
  h.keep (Moves.of_below [] hm) (fun _ _ => List.not_mem_nil)
theorem IsRef.lt {fp : List Nat} (h : IsRef w r m fp) : ∀ x ∈ fp, x < w.heap.size := by
  obtain ⟨ov, pv, h, rfl⟩ := h
  exact h.lt
theorem IsRef.stays {fp : List Nat} (h : IsRef w r m fp) : RTurned w w r m fp := ⟨fp, h, Moves.refl _ _, fun _ hx => .inl hx⟩

/-- another power -/
theorem RefAt.left (h : RefAt w r m ov pv) (l : Int) (hok : Ok { m with left := l }) : RefAt (w.setCell ⟨r, 2, none⟩ (.int .i64 l)) r { m with left := l } ov pv := by
  have hm : Moves [r] w (w.setCell ⟨r, 2, none⟩ (.int .i64 l)) := Moves.set w r 2 _ (by simp)
  refine ⟨?_, ownsRow_same h.old (fun g hg => hm.block g (h.old.lt g hg).2 (by simp; intro e; subst e; exact h.no hg)), ownsRow_same h.op (fun g hg => hm.block g (h.op.lt g hg).2 (by simp; intro e; subst e; exact h.np hg)), hok⟩
  simp [World.setCell, Array.getElem?_modify, h.blk]
theorem RefAt.goes (h : RefAt w r m ov pv) : RefAt (w.setCell ⟨r, 3, none⟩ (.bool true)) r { m with gone := true } ov pv := by
  have hm : Moves [r] w (w.setCell ⟨r, 3, none⟩ (.bool true)) := Moves.set w r 3 _ (by simp)
  refine ⟨?_, ownsRow_same h.old (fun g hg => hm.block g (h.old.lt g hg).2 (by simp; intro e; subst e; exact h.no hg)), ownsRow_same h.op (fun g hg => hm.block g (h.op.lt g hg).2 (by simp; intro e; subst e; exact h.np hg)), ⟨h.ok.old, h.ok.op, h.ok.left, h.ok.many⟩⟩
  simp [World.setCell, Array.getElem?_modify, h.blk]

/-! Power -/
set_option maxHeartbeats 1000000 in
set_option maxRecDepth 20000 in
theorem rpower_any (x : Int) (hx : x ≤ 9223372036854775807) (fp : List Nat) (w : World) (h0 : IsRef w r m fp) :
    Calls Tryz.prog 59 #[.pointer (some ⟨r, 0, none⟩), .int .i64 x] w fun e w' => e = .returned (.tuple #[]) ∧ RTurned w w' r (powerM m x) fp := by
  have h0' := h0.stays
  obtain ⟨ov, pv, h, rfl⟩ := h0
  have c2 := h.cell2
  have c3 := h.cell3
  have f2 := h.free 2
  have hok := ok_power h.ok x hx
  unfold powerM at hok ⊢
  cases hg : m.gone with
  | true =>
    rw [hg] at c3
    have H0 := hide h0'
    clear h0' hok h hx
    go_enter Tryz.func59, Tryz.ntmps59
    go_wp2
    go_end0
    exact ⟨rfl, unhide H0⟩
  | false =>
    rw [hg] at c3 hok
    simp only [Bool.false_eq_true, if_false] at hok ⊢
    have hl := h.left (max x (-1)) (by rw [hg]; exact hok)
    rw [hg] at hl
    have HL := hide hl
    clear h0' hok hx hl
    have H := hide h
    clear h
    go_enter Tryz.func59, Tryz.ntmps59
    go_wp2
    go_end0
    exact ⟨rfl, _, ⟨ov, pv, unhide HL, rfl⟩, Moves.set _ _ _ _ (by simp [rfOf]), fun _ hx => .inl hx⟩

/-! the power's calls -/
set_option maxHeartbeats 1000000 in
set_option maxRecDepth 20000 in
theorem rspend_now (w : World) (h : RefAt w r m ov pv) (hl : m.left = 0) :
    Calls Tryz.prog 135 #[.pointer (some ⟨r, 0, none⟩)] w fun e w' => e = .returned (.bool false) ∧ RefAt w' r { m with gone := true } ov pv ∧ Moves [r] w w' := by
  have c2 := h.cell2
  rw [hl] at c2
  have c3 := h.cell3
  have f3 := h.free 3
  have HG := hide h.goes
  clear h
  go_enter Tryz.func135, Tryz.ntmps135
  go_wp2
  go_ret
  exact ⟨rfl, unhide HG, Moves.set _ _ _ _ (by simp)⟩
set_option maxHeartbeats 1000000 in
set_option maxRecDepth 20000 in
theorem rspend_any (w : World) (h : RefAt w r m ov pv) (hl : m.left ≠ 0) :
    Calls Tryz.prog 135 #[.pointer (some ⟨r, 0, none⟩)] w fun e w' => e = .returned (.bool true) ∧ RefAt w' r { m with left := spent m.left } ov pv ∧ Moves [r] w w' := by
  have c2 := h.cell2
  have f2 := h.free 2
  by_cases hp : 0 < m.left
  · have hw : IntKind.i64.wrap (m.left - 1) = m.left - 1 := by have := h.ok.left; rw [IntKind.wrap_i64]; omega
    have e1 : spent m.left = m.left - 1 := by unfold spent; rw [if_pos hp]
    rw [e1]
    have hl2 := h.left (m.left - 1) ⟨h.ok.old, h.ok.op, by have := h.ok.left; show -1 ≤ m.left - 1 ∧ m.left - 1 ≤ 9223372036854775807; omega, h.ok.many⟩
    have HL := hide hl2
    clear h hl2 e1
    go_enter Tryz.func135, Tryz.ntmps135
    go_wp2
    go_ret
    exact ⟨rfl, unhide HL, Moves.set _ _ _ _ (by simp)⟩
  · have e1 : spent m.left = m.left := by unfold spent; rw [if_neg hp]
    rw [e1]
    have H := hide h
    clear h e1
    go_enter Tryz.func135, Tryz.ntmps135
    go_wp2
    go_ret
    exact ⟨rfl, unhide H, Moves.refl _ _⟩
end Go.Proofs.YtlmgmdnmghgkbaaGreatDoor.L3

/- The document's disk: Read, Write. -/
namespace Go.Proofs.YtlmgmdnmghgkbaaGreatDoor.L3
open Go.ChangeShapes Go.WideShapes Go.ChangeAt Go.RowKit

variable {r : Nat} {m : Dk} {ov pv : Value}

theorem strs_length (l : List ByteArray) : (strs l).length = l.length := by simp [strs]
theorem strs_at (l : List ByteArray) (i : Nat) (h : i < l.length) : (strs l)[i]? = some (.string (l.getD i ByteArray.empty)) := by
  simp [strs, List.getElem?_eq_getElem h]
theorem strs_one (l : List ByteArray) : ∀ u ∈ strs l, u.oneCell' = true := by
  intro u hu
  obtain ⟨s, _, rfl⟩ := List.mem_map.1 hu
  rfl

/-- where a slice's row lies -/
theorem row_some {w : World} {e : TypeId} {size : Nat} {v : Value} {n : Nat} {xs : List Value} (h : w.ownsRow 0 e size v n xs) (hn : 0 < n) : ∃ g cap, v = .slice (some ⟨g, 0, none⟩) n cap ∧ g < w.heap.size ∧ n ≤ cap := by
  rcases h.2 with ⟨_, h0⟩ | ⟨g, cap, cur, rfl, _, hg, hc, _⟩
  · omega
  · exact ⟨g, cap, rfl, (Array.getElem?_eq_some_iff.1 hg).1, hc⟩
theorem row_cell {w : World} {e : TypeId} {size : Nat} {g n cap : Nat} {xs : List Value} (h : w.ownsRow 0 e size (.slice (some ⟨g, 0, none⟩) n cap) n xs) (j : Nat) (u : Value) (hj : xs[j]? = some u) : w.cell? ⟨g, j, none⟩ = some u := by
  have := h.cells (g := g) rfl j u hj
  rw [Go.WideShapes.add_plain, Nat.zero_add] at this
  exact this

set_option maxHeartbeats 1000000 in
set_option maxRecDepth 20000 in
theorem rread_gone (n : Int) (w : World) (h : RefAt w r m ov pv) (hg : m.gone = true) :
    Calls Tryz.prog 144 #[.pointer (some ⟨r, 0, none⟩), .int .i64 n] w fun e w' => e = .returned (.tuple #[.string ByteArray.empty, .int .i64 30]) ∧ w' = w := by
  have c3 := h.cell3
  rw [hg] at c3
  go_enter Tryz.func144, Tryz.ntmps144
  go_wp2
  go_ret2
  exact ⟨rfl, rfl⟩
set_option maxHeartbeats 1000000 in
set_option maxRecDepth 20000 in
theorem rread_out (n : Int) (w : World) (h : RefAt w r m ov pv) (hg : m.gone = false) (hn : n < 0 ∨ (m.old.length : Int) ≤ n) :
    Calls Tryz.prog 144 #[.pointer (some ⟨r, 0, none⟩), .int .i64 n] w fun e w' => e = .returned (.tuple #[.string ByteArray.empty, .int .i64 31]) ∧ w' = w := by
  have c3 := h.cell3
  rw [hg] at c3
  have c0 := h.cell0
  obtain ⟨a, cap, rfl⟩ := ownsRow_form h.old
  by_cases h1 : n < 0
  · go_enter Tryz.func144, Tryz.ntmps144
    go_wp2
    go_ret2
    exact ⟨rfl, rfl⟩
  · have h2 : (m.old.length : Int) ≤ n := by omega
    go_enter Tryz.func144, Tryz.ntmps144
    go_wp2
    go_ret2
    exact ⟨rfl, rfl⟩

set_option maxHeartbeats 2000000 in
set_option maxRecDepth 20000 in
theorem rread_in (n : Int) (w : World) (h : RefAt w r m ov pv) (hg : m.gone = false) (h0 : 0 ≤ n) (h1 : n < (m.old.length : Int)) (hc : m.op.length ≤ 1000000) :
    Calls Tryz.prog 144 #[.pointer (some ⟨r, 0, none⟩), .int .i64 n] w fun e w' => e = .returned (.tuple #[.string ((lastW m.op n.toNat).getD (m.old.getD n.toNat ByteArray.empty)), .int .i64 0]) ∧ w' = w := by
  have c3 := h.cell3
  rw [hg] at c3
  have c0 := h.cell0
  have c1 := h.cell1
  obtain ⟨g, cap, rfl, hgl, hcap⟩ := row_some h.old (by omega)
  obtain ⟨ap, capp, rfl⟩ := ownsRow_form h.op
  have q0 := row_cell h.old n.toNat _ (strs_at m.old n.toNat (by omega))
  have HOP := hide h.op
  have h2 : ¬ n < 0 := by omega
  have h3 : ¬ (m.old.length : Int) ≤ n := by omega
  clear h hgl hcap
  generalize m.old.getD n.toNat ByteArray.empty = s0 at *
  go_enter Tryz.func144, Tryz.ntmps144
  go_wp2_with fail
  go_loopw [6, 7] (fun t j wr => ∃ k : Nat, k ≤ m.op.length ∧ j = .int .i64 (k : Int) ∧ t = .string ((lastW (m.op.take k) n.toNat).getD s0) ∧ wr = w) (fun _ j _ => m.op.length - (intOf j).toNat)
  case atStart => exact ⟨0, Nat.zero_le _, rfl, rfl, rfl⟩
  case round =>
    obtain ⟨k, hk, rfl, rfl, rfl⟩ := hrel
    have hk6 : k ≤ 1000000 := by omega
    by_cases hlt : k < m.op.length
    · have hlt' : (k : Int) < (m.op.length : Int) := by omega
      obtain ⟨gp, capq, ep, _, _⟩ := row_some (unhide HOP) (by omega)
      cases ep
      have q1 := row_cell (unhide HOP) (k * 2) _ (opCells_at m.op k hlt).1
      have q2 := row_cell (unhide HOP) (k * 2 + 1) _ (opCells_at m.op k hlt).2
      have htk : m.op.take (k + 1) = m.op.take k ++ [m.op[k]] := by rw [List.take_add_one, List.getElem?_eq_getElem hlt]; rfl
      have hlw := lastW_snoc (m.op.take k) m.op[k] n.toNat
      rw [← htk] at hlw
      have HLW := hide hlw
      clear htk hlw
      generalize m.op[k].1 = x at *
      generalize m.op[k].2 = s at *
      generalize (lastW (m.op.take k) n.toNat) = L0 at *
      by_cases hx : (x : Int) = n
      · have hxn : x = n.toNat := by omega
        go_wp2
        go_roundw
        case rel =>
          refine ⟨k + 1, by omega, by go_num, ?_, trivial⟩
          rw [unhide HLW, if_pos hxn]
          rfl
        case measure => simp [intOf]; omega
      · have hxn : ¬ x = n.toNat := by omega
        go_wp2
        go_roundw
        case rel =>
          refine ⟨k + 1, by omega, by go_num, ?_, trivial⟩
          rw [unhide HLW, if_neg hxn]
        case measure => simp [intOf]; omega
    · have hlt' : ¬ (k : Int) < (m.op.length : Int) := by omega
      have hkl : m.op.take k = m.op := List.take_of_length_le (by omega)
      rw [hkl]
      clear hkl
      go_wp2
      go_ret2
      exact ⟨rfl, rfl⟩
theorem rread_any (n : Int) (w : World) (h : RefAt w r m ov pv) (hc : m.op.length ≤ 1000000) :
    Calls Tryz.prog 144 #[.pointer (some ⟨r, 0, none⟩), .int .i64 n] w fun e w' => e = .returned (.tuple #[.string (readM m n).1, .int .i64 (readM m n).2]) ∧ w' = w := by
  unfold readM
  cases hg : m.gone with
  | true => exact rread_gone n w h hg
  | false =>
    rw [if_neg (by decide)]
    by_cases hn : n < 0 ∨ (m.old.length : Int) ≤ n
    · rw [if_pos hn]
      exact rread_out n w h hg hn
    · rw [if_neg hn]
      exact rread_in n w h hg (by omega) (by omega) hc
end Go.Proofs.YtlmgmdnmghgkbaaGreatDoor.L3

/- The document's disk: Write. -/
namespace Go.Proofs.YtlmgmdnmghgkbaaGreatDoor.L3
open Go.ChangeShapes Go.WideShapes Go.ChangeAt Go.RowKit

variable {r : Nat} {m : Dk} {ov pv : Value}

theorem info243 : (Tryz.prog.info? 243).map (fun i => (i.zero, i.size, i.bytes)) = some (some (.agg #[.int .i64 0, .string ByteArray.empty]), 2, 24) := by kernel_rfl
theorem info9 : (Tryz.prog.info? 9).map (fun i => (i.zero, i.size, i.bytes)) = some (some (.string ByteArray.empty), 1, 16) := by kernel_rfl

theorem RefAt.written {w w5 : World} {n : Nat} {s : ByteArray} {pv' : Value} (h : RefAt w r m ov pv) (hn : n < m.old.length) (hs : s.size = 1024)
    (hown : w5.ownsRow 0 243 2 pv' (m.op.length + 1) (opCells (m.op ++ [(n, s)]))) (hg5 : w.grownBy w5 pv.ownBlock) (hloc : pv'.ownBlock = pv.ownBlock ∨ ∃ g, pv'.ownBlock = some g ∧ w.heap.size ≤ g) :
    RefAt (w5.setCell ⟨r, 1, none⟩ pv') r { m with op := m.op ++ [(n, s)] } ov pv' ∧ Moves (rfOf r ov pv) w (w5.setCell ⟨r, 1, none⟩ pv') ∧ ∀ x ∈ rfOf r ov pv', x ∈ rfOf r ov pv ∨ w.heap.size ≤ x := by
  have hm5 : Moves (rfOf r ov pv) w w5 := Moves.of_grown hg5 (fun k hk => by simp [rfOf, hk])
  have hm6 : Moves (rfOf r ov pv) w5 (w5.setCell ⟨r, 1, none⟩ pv') := Moves.set _ _ _ _ (by simp [rfOf])
  have hr5 : w5.heap[r]? = w.heap[r]? := hg5.block r h.rlt (fun e => h.np e.symm)
  have hnp : pv'.ownBlock ≠ some r := by
    rcases hloc with e | ⟨g, e, hg⟩
    · rw [e]; exact h.np
    · rw [e]
      have := h.rlt
      simp
      omega
  refine ⟨⟨?_, ?_, ?_, ?_⟩, hm5.then hm6, ?_⟩
  · have hb := hr5.trans h.blk
    simp [World.setCell, Array.getElem?_modify, hb]
  · exact ownsRow_same h.old (fun g hg => (Below.heap_setCell _ _ _ _ (by intro e; exact h.no (by rw [hg, e]))).trans (hg5.block g (h.old.lt g hg).2 (fun e => h.nn g hg e.symm)))
  · show World.ownsRow _ 0 243 2 pv' (m.op ++ [(n, s)]).length _
    rw [List.length_append]
    exact ownsRow_same hown (fun g hg => Below.heap_setCell _ _ _ _ (by intro e; exact hnp (by rw [hg, e])))
  · refine ⟨h.ok.old, ?_, h.ok.left, h.ok.many⟩
    intro p hp
    rcases List.mem_append.1 hp with hp | hp
    · exact h.ok.op p hp
    · simp at hp
      subst hp
      exact ⟨hn, hs⟩
  · intro x hx
    simp [rfOf] at hx ⊢
    rcases hx with rfl | hx | hx
    · simp
    · simp [hx]
    · rcases hloc with e | ⟨g, e, hg⟩
      · rw [e] at hx
        simp [hx]
      · rw [e] at hx
        cases hx
        exact .inr hg

set_option maxHeartbeats 1000000 in
set_option maxRecDepth 20000 in
theorem rwrite_gone (n : Int) (data : ByteArray) (w : World) (h : RefAt w r m ov pv) (hg : m.gone = true) :
    Calls Tryz.prog 97 #[.pointer (some ⟨r, 0, none⟩), .int .i64 n, .string data] w fun e w' => e = .returned (.int .i64 30) ∧ w' = w := by
  have c3 := h.cell3
  rw [hg] at c3
  clear h
  go_enter Tryz.func97, Tryz.ntmps97
  go_wp2
  go_ret
  exact ⟨rfl, rfl⟩
set_option maxHeartbeats 1000000 in
set_option maxRecDepth 20000 in
theorem rwrite_out (n : Int) (data : ByteArray) (w : World) (h : RefAt w r m ov pv) (hg : m.gone = false) (hn : n < 0 ∨ (m.old.length : Int) ≤ n) :
    Calls Tryz.prog 97 #[.pointer (some ⟨r, 0, none⟩), .int .i64 n, .string data] w fun e w' => (m.left = 0 → e = .returned (.int .i64 30) ∧ w' = w.setCell ⟨r, 3, none⟩ (.bool true)) ∧ (m.left ≠ 0 → e = .returned (.int .i64 31) ∧ w' = w) := by
  have c3 := h.cell3
  rw [hg] at c3
  have c2 := h.cell2
  have c0 := h.cell0
  have f3 := h.free 3
  obtain ⟨a, cap, rfl⟩ := ownsRow_form h.old
  clear h
  by_cases hl : m.left = 0
  · rw [hl] at c2
    by_cases h1 : n < 0
    · go_enter Tryz.func97, Tryz.ntmps97
      go_wp2
      go_ret
      first | exact ⟨rfl, rfl⟩ | exact ⟨fun _ => ⟨rfl, rfl⟩, fun h => absurd hl h⟩
    · have h2 : (m.old.length : Int) ≤ n := by omega
      go_enter Tryz.func97, Tryz.ntmps97
      go_wp2
      go_ret
      first | exact ⟨rfl, rfl⟩ | exact ⟨fun _ => ⟨rfl, rfl⟩, fun h => absurd hl h⟩
  · by_cases h1 : n < 0
    · go_enter Tryz.func97, Tryz.ntmps97
      go_wp2
      go_ret
      first | exact ⟨rfl, rfl⟩ | exact ⟨fun h => absurd h hl, fun _ => ⟨rfl, rfl⟩⟩
    · have h2 : (m.old.length : Int) ≤ n := by omega
      go_enter Tryz.func97, Tryz.ntmps97
      go_wp2
      go_ret
      first | exact ⟨rfl, rfl⟩ | exact ⟨fun h => absurd h hl, fun _ => ⟨rfl, rfl⟩⟩
set_option maxHeartbeats 1000000 in
set_option maxRecDepth 20000 in
theorem rwrite_size (n : Int) (data : ByteArray) (w : World) (h : RefAt w r m ov pv) (hg : m.gone = false) (h0 : 0 ≤ n) (h1 : n < (m.old.length : Int)) (hs : data.size ≠ 1024) :
    Calls Tryz.prog 97 #[.pointer (some ⟨r, 0, none⟩), .int .i64 n, .string data] w fun e w' => (m.left = 0 → e = .returned (.int .i64 30) ∧ w' = w.setCell ⟨r, 3, none⟩ (.bool true)) ∧ (m.left ≠ 0 → e = .returned (.int .i64 32) ∧ w' = w) := by
  have c3 := h.cell3
  rw [hg] at c3
  have c2 := h.cell2
  have c0 := h.cell0
  have f3 := h.free 3
  obtain ⟨a, cap, rfl⟩ := ownsRow_form h.old
  have h2 : ¬ n < 0 := by omega
  have h3 : ¬ (m.old.length : Int) ≤ n := by omega
  have hs' : (data.size : Int) ≠ 1024 := by omega
  clear h
  by_cases hl : m.left = 0
  · rw [hl] at c2
    go_enter Tryz.func97, Tryz.ntmps97
    go_wp2
    go_ret
    first | exact ⟨rfl, rfl⟩ | exact ⟨fun _ => ⟨rfl, rfl⟩, fun h => absurd hl h⟩
  · go_enter Tryz.func97, Tryz.ntmps97
    go_wp2
    go_ret
    first | exact ⟨rfl, rfl⟩ | exact ⟨fun h => absurd h hl, fun _ => ⟨rfl, rfl⟩⟩
set_option maxHeartbeats 1000000 in
set_option maxRecDepth 20000 in
theorem rwrite_now (n : Int) (data : ByteArray) (w : World) (h : RefAt w r m ov pv) (hg : m.gone = false) (h0 : 0 ≤ n) (h1 : n < (m.old.length : Int)) (hs : data.size = 1024) (hl : m.left = 0) :
    Calls Tryz.prog 97 #[.pointer (some ⟨r, 0, none⟩), .int .i64 n, .string data] w fun e w' => e = .returned (.int .i64 30) ∧ RefAt w' r { m with gone := true } ov pv ∧ Moves [r] w w' := by
  have c3 := h.cell3
  rw [hg] at c3
  have c0 := h.cell0
  have H := hide h
  obtain ⟨a, cap, rfl⟩ := ownsRow_form h.old
  have h2 : ¬ n < 0 := by omega
  have h3 : ¬ (m.old.length : Int) ≤ n := by omega
  have hs' : (data.size : Int) = 1024 := by omega
  have HL := hide hl
  clear h hl hs
  go_enter Tryz.func97, Tryz.ntmps97
  go_wp2_with (go_at_call 135; refine (rspend_now _ (unhide H) (unhide HL)).mono ?_; rintro e w1 ⟨rfl, hA, hm⟩)
  go_ret
  exact ⟨rfl, hA, hm⟩
set_option maxHeartbeats 2000000 in
set_option maxRecDepth 20000 in
theorem rwrite_ok (n : Int) (data : ByteArray) (w : World) (h : RefAt w r m ov pv) (hg : m.gone = false) (h0 : 0 ≤ n) (h1 : n < (m.old.length : Int)) (hs : data.size = 1024) (hl : m.left ≠ 0) (hc : m.op.length ≤ 1000000) :
    Calls Tryz.prog 97 #[.pointer (some ⟨r, 0, none⟩), .int .i64 n, .string data] w fun e w' => e = .returned (.int .i64 0) ∧
      ∃ pv', RefAt w' r { m with left := spent m.left, op := m.op ++ [(n.toNat, data)] } ov pv' ∧ Moves (rfOf r ov pv) w w' ∧ ∀ x ∈ rfOf r ov pv', x ∈ rfOf r ov pv ∨ w.heap.size ≤ x := by
  have c3 := h.cell3
  rw [hg] at c3
  have c0 := h.cell0
  have H := hide h
  obtain ⟨a, cap, rfl⟩ := ownsRow_form h.old
  have h2 : ¬ n < 0 := by omega
  have h3 : ¬ (m.old.length : Int) ≤ n := by omega
  have hs' : (data.size : Int) = 1024 := by omega
  have hnn : n.toNat < m.old.length := by omega
  have en : ((n.toNat : Nat) : Int) = n := Int.toNat_of_nonneg h0
  have HNN := hide hnn
  have EN := hide en
  have HL := hide hl
  have HO := hide hc
  have HS := hide hs
  have HG := hide hg
  clear h hl hs hnn en hc hg
  go_enter Tryz.func97, Tryz.ntmps97
  go_wp2_with (first
    | (go_at_call 135; refine (rspend_any _ (unhide H) (unhide HL)).mono ?_; rintro e w1 ⟨rfl, hA, hm⟩; have k1 := hA.cell1; have HA := hide hA; have HM := hide hm; clear hA hm)
    | (at_builtin; refine app_gen (v := pv) (news := [.int .i64 n, .string data]) Tryz.underlying103 info243 rfl (by decide) rfl _ _ rfl rfl rfl (unhide HA).op (Nat.zero_le _) rfl (by intro u hu; simp at hu; rcases hu with rfl | rfl <;> rfl) (by have := unhide HO; show (m.op.length + 1) * 24 ≤ _; omega) (by have := unhide HO; show m.op.length + 1 ≤ _; omega) ?_; intro a5 cap5 w5 hown5 hg5 hloc; have hc5 := hg5.cell k1 (by have := (unhide HA).np; exact fun e => this e.symm); have hfr : w5.frozen? ⟨r, 1, none⟩ = false := (grown_frozen hg5 (unhide HA).rlt (by have := (unhide HA).np; exact fun e => this e.symm) 1).trans ((unhide HA).free 1); have HX := hide (And.intro hown5 (And.intro hg5 hloc)); clear hown5 hg5 hloc)
    | go_in)
  go_ret
  obtain ⟨hown5, hg5, hloc⟩ := unhide HX
  have hown6 : w5.ownsRow 0 243 2 (.slice a5 (m.op.length + 1) cap5) (m.op.length + 1) (opCells (m.op ++ [(n.toNat, data)])) := by
    rw [opCells_snoc]
    show w5.ownsRow 0 243 2 (.slice a5 (m.op.length + 1) cap5) (m.op.length + 1) (opCells m.op ++ [.int .i64 ((n.toNat : Nat) : Int), .string data])
    rw [unhide EN]
    exact hown5
  obtain ⟨r1, r2, r3⟩ := (unhide HA).written (unhide HNN) (unhide HS) hown6 hg5 hloc
  have hm := unhide HM
  refine ⟨rfl, _, r1, (hm.mono (fun x hx => .inl (by simp at hx; simp [rfOf, hx]))).then r2, fun x hx => ?_⟩
  rcases r3 x hx with h | h
  · exact .inl h
  · exact .inr (Nat.le_trans hm.size h)

theorem rwrite_any (n : Int) (data : ByteArray) (fp : List Nat) (w : World) (h0 : IsRef w r m fp) (hc : m.op.length ≤ 1000000) :
    Calls Tryz.prog 97 #[.pointer (some ⟨r, 0, none⟩), .int .i64 n, .string data] w fun e w' => e = .returned (.int .i64 (writeE m n data)) ∧ RTurned w w' r (writeM m n data) fp := by
  have h0' := h0.stays
  obtain ⟨ov, pv, h, rfl⟩ := h0
  unfold writeE writeM
  cases hg : m.gone with
  | true =>
    refine (rwrite_gone n data w h hg).mono ?_
    rintro e w' ⟨rfl, rfl⟩
    exact ⟨rfl, h0'⟩
  | false =>
    simp only [Bool.false_eq_true, if_false]
    have hgo : RTurned w (w.setCell ⟨r, 3, none⟩ (.bool true)) r { m with gone := true } (rfOf r ov pv) := ⟨_, ⟨ov, pv, h.goes, rfl⟩, Moves.set _ _ _ _ (by simp [rfOf]), fun _ hx => .inl hx⟩
    by_cases hn : n < 0 ∨ (m.old.length : Int) ≤ n
    · refine (rwrite_out n data w h hg hn).mono ?_
      rintro e w' ⟨r1, r2⟩
      by_cases hl : m.left = 0
      · obtain ⟨rfl, rfl⟩ := r1 hl
        rw [if_pos hl, if_pos hl]
        exact ⟨rfl, hgo⟩
      · obtain ⟨rfl, rfl⟩ := r2 hl
        rw [if_neg hl, if_neg hl, if_pos hn, if_pos hn]
        exact ⟨rfl, h0'⟩
    · by_cases hs : data.size = 1024
      · by_cases hl : m.left = 0
        · rw [if_pos hl, if_pos hl]
          refine (rwrite_now n data w h hg (by omega) (by omega) hs hl).mono ?_
          rintro e w' ⟨rfl, hA, hm⟩
          exact ⟨rfl, _, ⟨ov, pv, hA, rfl⟩, hm.mono (fun x hx => .inl (by simp at hx; simp [rfOf, hx])), fun _ hx => .inl hx⟩
        · rw [if_neg hl, if_neg hl, if_neg hn, if_neg hn, if_neg (by omega), if_neg (by omega)]
          refine (rwrite_ok n data w h hg (by omega) (by omega) hs hl hc).mono ?_
          rintro e w' ⟨rfl, pv', r1, r2, r3⟩
          rw [hg] at r1
          exact ⟨rfl, _, ⟨ov, pv', r1, rfl⟩, r2, r3⟩
      · refine (rwrite_size n data w h hg (by omega) (by omega) hs).mono ?_
        rintro e w' ⟨r1, r2⟩
        by_cases hl : m.left = 0
        · obtain ⟨rfl, rfl⟩ := r1 hl
          rw [if_pos hl, if_pos hl]
          exact ⟨rfl, hgo⟩
        · obtain ⟨rfl, rfl⟩ := r2 hl
          rw [if_neg hl, if_neg hl, if_neg hn, if_neg hn, if_pos hs, if_pos hs]
          exact ⟨rfl, h0'⟩
end Go.Proofs.YtlmgmdnmghgkbaaGreatDoor.L3

/- The document's disk: New. -/
namespace Go.Proofs.YtlmgmdnmghgkbaaGreatDoor.L3
open Go.ChangeShapes Go.WideShapes Go.ChangeAt Go.RowKit

variable {r : Nat} {m : Dk} {ov pv : Value}

theorem zeros_strOf : strOf (List.replicate 1024 0) = zeros := by
  apply data_inj
  unfold strOf
  rw [strOfNums_data, List.map_replicate, List.map_replicate]
  rfl

theorem made_zeros (n : Nat) : (madeCells (Value.int .u8 0).cells (n * 1)).toList = cells (List.replicate n 0) := by
  have e : ∀ i, (Value.int .u8 0).cells[i % (Value.int .u8 0).cells.size]! = Value.int .u8 0 := by
    intro i
    show (#[Value.int .u8 0])[i % 1]! = _
    rw [Nat.mod_one]
    rfl
  unfold madeCells cells
  rw [Array.toList_map, Array.toList_range, List.map_replicate, List.map_congr_left (fun i _ => e i), List.map_const', List.length_range, Nat.mul_one]
  rfl

/-- zeros by make -/
theorem make_zeros {ops : Array Oper} {rest : List Oper} {o : Oper} {a : Act} {Q : Exit → Act → World → Prop} {w : World} {n : Nat} {L : Int}
    (hg : o.guard = none) (l c : Operand) (hop : o.op = Op.makeSlice 68 l c) (hl : a.eval l = .int .i64 L) (hc : a.eval c = .int .i64 L) (hL : L = (n : Int)) (hn : n ≤ 5000)
    (hK : ∀ w', Own w.heap.size w' (.slice (some ⟨w.heap.size, 0, none⟩) n n) (List.replicate n 0) → Below w.heap.size w w' → wpList Tryz.prog ops Q rest (a.put o.dst (.slice (some ⟨w.heap.size, 0, none⟩) n n)) w') :
    wpList Tryz.prog ops Q (o :: rest) a w := by
  obtain ⟨i0, hi, hz0, hz1, hz2⟩ := info_parts info5
  refine wpList_make_full w hg l c 68 hop w.heap.size 5 i0 (.int .u8 0) 1 Tryz.underlying68 hi hz0 hz1 .i64 .i64 L L n hl hc hL hL (by rw [hz2]; omega) (by unfold maxLen; omega) (Nat.le_refl _) ?_
  intro w' h1 h2
  rw [made_zeros] at h1
  refine hK w' ?_ ((Below.refl _ _).grown h2 (Nat.le_refl _) (fun k hk => by cases hk))
  unfold Own
  rw [List.length_replicate]
  exact h1

set_option maxHeartbeats 1000000 in
set_option maxRecDepth 100000 in
theorem rzeros_any (w : World) : Calls Tryz.prog 49 #[] w fun e w' => e = .returned (.string zeros) ∧ Below w.heap.size w w' := by
  go_enter Tryz.func49, Tryz.ntmps49
  go_wp2_with (first
    | (refine make_zeros (n := 1024) rfl _ _ rfl rfl rfl rfl (by decide) ?_; intro w1 hown hb; have hcv := conv_own hown; rw [zeros_strOf] at hcv; clear hown)
    | go_in)
  go_ret
  exact ⟨rfl, hb⟩

theorem RefAt.longer {w w5 : World} {s : ByteArray} {ov' : Value} (h : RefAt w r m ov pv) (hok : Ok { m with old := m.old ++ [s] })
    (hown : w5.ownsRow 0 9 1 ov' (m.old.length + 1) (strs (m.old ++ [s]))) (hg5 : w.grownBy w5 ov.ownBlock) (hloc : ov'.ownBlock = ov.ownBlock ∨ ∃ g, ov'.ownBlock = some g ∧ w.heap.size ≤ g) :
    RefAt (w5.setCell ⟨r, 0, none⟩ ov') r { m with old := m.old ++ [s] } ov' pv := by
  have hr5 : w5.heap[r]? = w.heap[r]? := hg5.block r h.rlt (fun e => h.no e.symm)
  have hno : ov'.ownBlock ≠ some r := by
    rcases hloc with e | ⟨g, e, hg⟩
    · rw [e]; exact h.no
    · rw [e]
      have := h.rlt
      simp
      omega
  refine ⟨?_, ?_, ?_, hok⟩
  · have hb := hr5.trans h.blk
    simp [World.setCell, Array.getElem?_modify, hb]
  · show World.ownsRow _ 0 9 1 ov' (m.old ++ [s]).length _
    rw [List.length_append]
    exact ownsRow_same hown (fun g hg => Below.heap_setCell _ _ _ _ (by intro e; exact hno (by rw [hg, e])))
  · exact ownsRow_same h.op (fun g hg => (Below.heap_setCell _ _ _ _ (by intro e; exact h.np (by rw [hg, e]))).trans (hg5.block g (h.op.lt g hg).2 (fun e => h.nn g e.symm hg)))

set_option maxHeartbeats 1000000 in
set_option maxRecDepth 20000 in
theorem rnew_bad (n : Int) (w : World) (h : n < 1 ∨ 4096 < n) : Calls Tryz.prog 15 #[.int .i64 n] w fun e w' => e = .returned (.tuple #[.pointer none, .int .i64 1]) ∧ w' = w := by
  by_cases h1 : n < 1
  · go_enter Tryz.func15, Tryz.ntmps15
    go_wp2
    go_ret2
    exact ⟨rfl, rfl⟩
  · have h2 : 4096 < n := by omega
    go_enter Tryz.func15, Tryz.ntmps15
    go_wp2
    go_ret2
    exact ⟨rfl, rfl⟩

set_option maxHeartbeats 2000000 in
set_option maxRecDepth 20000 in
theorem rnew_any (n : Nat) (w : World) (h1 : 1 ≤ n) (h2 : n ≤ 4096) : Calls Tryz.prog 15 #[.int .i64 (n : Int)] w fun e w' => ∃ r fp, e = .returned (.tuple #[.pointer (some ⟨r, 0, none⟩), .int .i64 0]) ∧ IsRef w' r (newM n) fp ∧ Below w.heap.size w w' ∧ (∀ x ∈ fp, w.heap.size ≤ x) := by
  have h3 : ¬ (n : Int) < 1 := by omega
  have h4 : ¬ 4096 < (n : Int) := by omega
  go_enter Tryz.func15, Tryz.ntmps15
  go_wp2_with (go_at_call 49; refine (rzeros_any _).mono ?_; rintro e w1 ⟨rfl, hb1⟩; have HB1 := hide hb1; clear hb1)
  have hA1 : RefAt w1 w.heap.size (newM 0) (.slice none 0 0) (.slice none 0 0) := by
    have hb1 := unhide HB1
    refine ⟨?_, World.ownsRow_nil _ _ _ _, World.ownsRow_nil _ _ _ _, newM_ok 0 (by omega)⟩
    refine (hb1.block w.heap.size (by simp)).trans ?_
    show (w.heap.push _)[w.heap.size]? = _
    rw [Array.getElem?_push, if_pos rfl]
    rfl
  have HA1 := hide hA1
  have HW1 : Hid (Below w.heap.size w w1) := ((Below.refl _ _).alloc (Nat.le_refl _) _).trans ((unhide HB1).mono (by simp))
  obtain ⟨r, hr⟩ : ∃ x, x = w.heap.size := ⟨_, rfl⟩
  have HR := hide hr
  rw [← hr] at HA1 ⊢
  clear hA1 HB1 hr
  go_loopw [6] (fun j wr => ∃ (k : Nat) (ov : Value), k ≤ n ∧ j = .int .i64 (k : Int) ∧ RefAt wr r (newM k) ov (.slice none 0 0) ∧ Below w.heap.size w wr ∧ ∀ g, ov.ownBlock = some g → w.heap.size ≤ g) (fun j _ => n - (intOf j).toNat)
  case atStart => exact ⟨0, _, Nat.zero_le _, rfl, unhide HA1, unhide HW1, fun g hg => by cases hg⟩
  case round =>
    clear HA1 HW1
    obtain ⟨k, ov, hk, rfl, hA, hb, ho⟩ := hrel
    have HA := hide hA
    have HB := hide hb
    have HO := hide ho
    clear hb ho
    by_cases hlt : k < n
    · have hlt' : (k : Int) < (n : Int) := by omega
      have c0 := hA.cell0
      have HOld : Hid (wr.ownsRow 0 9 1 ov k (strs (List.replicate k zeros))) := by
        have := hA.old
        rw [show (newM k).old = List.replicate k zeros from rfl, List.length_replicate] at this
        exact this
      clear hA
      go_wp2_with (first
        | (at_builtin; refine app_gen (v := ov) (news := [.string zeros]) Tryz.underlying102 info9 rfl (by decide) rfl _ _ rfl rfl rfl (unhide HOld) (Nat.zero_le _) rfl (by intro u hu; simp at hu; subst hu; rfl) (by omega) (by omega) ?_; intro a5 cap5 w5 hown5 hg5 hloc; have hc5 := hg5.cell c0 (by have := (unhide HA).no; exact fun e => this e.symm); have hfr : w5.frozen? ⟨r, 0, none⟩ = false := (grown_frozen hg5 (unhide HA).rlt (by have := (unhide HA).no; exact fun e => this e.symm) 0).trans ((unhide HA).free 0); have HX := hide (And.intro hown5 (And.intro hg5 hloc)); clear hown5 hg5 hloc)
        | go_in)
      go_roundw
      case rel =>
        obtain ⟨hown5, hg5, hloc⟩ := unhide HX
        have hb := unhide HB
        have hl : RefAt (w5.setCell ⟨r, 0, none⟩ (.slice a5 (k + 1) cap5)) r (newM (k + 1)) (.slice a5 (k + 1) cap5) (.slice none 0 0) := by
          have e1 : (newM (k + 1)) = { newM k with old := (newM k).old ++ [zeros] } := by
            show (⟨List.replicate (k + 1) zeros, [], -1, false⟩ : Dk) = ⟨List.replicate k zeros ++ [zeros], [], -1, false⟩
            rw [List.replicate_succ']
          rw [e1]
          refine (unhide HA).longer (by rw [← e1]; exact newM_ok (k + 1) (by omega)) ?_ hg5 hloc
          show w5.ownsRow 0 9 1 _ ((List.replicate k zeros).length + 1) (strs (List.replicate k zeros ++ [zeros]))
          rw [List.length_replicate]
          simp only [strs, List.map_append, List.map_cons, List.map_nil]
          exact hown5
        refine ⟨k + 1, _, by omega, by go_num, hl, ?_, fun g hg => ?_⟩
        · have hb5 := hb.grown hg5 hb.size (fun g hg => unhide HO g hg)
          exact hb5.setCell (by have := unhide HR; show w.heap.size ≤ r; omega) _
        · rcases hloc with e | ⟨g', e, hg'⟩
          · rw [e] at hg
            exact unhide HO g hg
          · rw [e] at hg
            cases hg
            exact Nat.le_trans hb.size hg'
      case measure => simp [intOf]; omega
    · have hlt' : ¬ (k : Int) < (n : Int) := by omega
      have hkn : k = n := by omega
      subst hkn
      clear hA
      go_wp2
      go_ret2
      refine ⟨r, rfl, _, ⟨_, _, unhide HA, rfl⟩, unhide HB, ?_⟩
      intro x hx
      simp [rfOf, Value.ownBlock] at hx
      have := unhide HR
      rcases hx with h | h
      · omega
      · exact unhide HO x h
end Go.Proofs.YtlmgmdnmghgkbaaGreatDoor.L3

/- The document's allocator in memory: New, at, Count. -/
namespace Go.Proofs.YtlmgmdnmghgkbaaGreatDoor.L5
open Go.ChangeShapes Go.WideShapes Go.ChangeAt Go.RowKit

/-- a sector of the document's -/
structure Rc where
  c : Int
  b : Int
  f : Int
  wt : Bool
structure CellsAt (w : World) (g o : Nat) (q : Rc) : Prop where
  c0 : w.cell? ⟨g, o, none⟩ = some (.int .i64 q.c)
  c1 : w.cell? ⟨g, o + 1, none⟩ = some (.int .i64 q.b)
  c2 : w.cell? ⟨g, o + 2, none⟩ = some (.int .i64 q.f)
  c3 : w.cell? ⟨g, o + 3, none⟩ = some (.bool q.wt)
def Rep (q : Rc) : St → Prop
  | none => q.c = 0 ∧ q.wt = false
  | some (0, g) => q.c = 0 ∧ q.wt = true ∧ q.f = g
  | some (h + 1, g) => q.c = (h : Int) + 1 ∧ q.wt = false ∧ q.b = g

structure RefAt (w : World) (r g fr : Nat) (l : List St) : Prop where
  blk : w.heap[r]? = some (.cells #[.int .i64 (fr : Int), .slice (some ⟨g, 0, none⟩) l.length l.length] 197 (0, 0))
  row : ∀ (i : Nat) (s : St), l[i]? = some s → ∃ q : Rc, CellsAt w g (i * 4) q ∧ Rep q s
  free : ∀ j : Nat, w.frozen? ⟨g, j, none⟩ = false
  lt : g < w.heap.size
  ne : r ≠ g
  ok : Ok fr l
  kin : ∃ cs, w.heap[g]? = some (.cells cs 201 (0, 0))

variable {w w' : World} {r g fr : Nat} {l : List St}

theorem RefAt.cell0 (h : RefAt w r g fr l) : w.cell? ⟨r, 0, none⟩ = some (.int .i64 (fr : Int)) := by simp [World.cell?, h.blk]
theorem RefAt.cell1 (h : RefAt w r g fr l) : w.cell? ⟨r, 1, none⟩ = some (.slice (some ⟨g, 0, none⟩) l.length l.length) := by simp [World.cell?, h.blk]
theorem RefAt.rlt (h : RefAt w r g fr l) : r < w.heap.size := (Array.getElem?_eq_some_iff.1 h.blk).1
theorem CellsAt.same {g o : Nat} {q : Rc} (h : CellsAt w g o q) (hb : w'.heap[g]? = w.heap[g]?) : CellsAt w' g o q :=
  ⟨(World.cell?_of_block hb).trans h.c0, (World.cell?_of_block hb).trans h.c1, (World.cell?_of_block hb).trans h.c2, (World.cell?_of_block hb).trans h.c3⟩
theorem RefAt.keep {fq : List Nat} (h : RefAt w r g fr l) (hm : Moves fq w w') (hr : r ∉ fq) (hg : g ∉ fq) : RefAt w' r g fr l := by
  have hb := hm.block g h.lt hg
  refine ⟨(hm.block r h.rlt hr).trans h.blk, fun i s hi => ?_, fun j => (World.frozen?_of_block hb).trans (h.free j), Nat.lt_of_lt_of_le h.lt hm.size, h.ne, h.ok, by obtain ⟨cs, hc⟩ := h.kin; exact ⟨cs, hb.trans hc⟩⟩
  obtain ⟨q, h1, h2⟩ := h.row i s hi
  exact ⟨q, h1.same hb, h2⟩
theorem RefAt.grow (h : RefAt w r g fr l) (hm : Below w.heap.size w w') : RefAt w' r g fr l :=
  h.keep (Moves.of_below [] hm) List.not_mem_nil List.not_mem_nil

def put4 (w : World) (g o : Nat) (q : Rc) : World := (((w.setCell ⟨g, o, none⟩ (.int .i64 q.c)).setCell ⟨g, o + 1, none⟩ (.int .i64 q.b)).setCell ⟨g, o + 2, none⟩ (.int .i64 q.f)).setCell ⟨g, o + 3, none⟩ (.bool q.wt)
theorem addr_ne {g a b : Nat} (h : a ≠ b) : (⟨g, a, none⟩ : Addr) ≠ ⟨g, b, none⟩ := fun e => h (by injection e)
theorem put4_other {o p : Nat} (q : Rc) (h0 : p ≠ o) (h1 : p ≠ o + 1) (h2 : p ≠ o + 2) (h3 : p ≠ o + 3) : (put4 w g o q).cell? ⟨g, p, none⟩ = w.cell? ⟨g, p, none⟩ := by
  unfold put4
  rw [World.cell?_setCell_other _ _ _ _ (addr_ne (Ne.symm h3)), World.cell?_setCell_other _ _ _ _ (addr_ne (Ne.symm h2)), World.cell?_setCell_other _ _ _ _ (addr_ne (Ne.symm h1)), World.cell?_setCell_other _ _ _ _ (addr_ne (Ne.symm h0))]
theorem put4_moves (w : World) (g o : Nat) (q : Rc) : Moves [g] w (put4 w g o q) :=
  (((Moves.set w g o _ (by simp)).then (Moves.set _ g (o + 1) _ (by simp))).then (Moves.set _ g (o + 2) _ (by simp))).then (Moves.set _ g (o + 3) _ (by simp))
theorem put4_cells {o : Nat} {q : Rc} (q' : Rc) (h : CellsAt w g o q) : CellsAt (put4 w g o q') g o q' := by
  unfold put4
  have n01 : (⟨g, o + 1, none⟩ : Addr) ≠ ⟨g, o, none⟩ := addr_ne (by omega)
  have n02 : (⟨g, o + 2, none⟩ : Addr) ≠ ⟨g, o, none⟩ := addr_ne (by omega)
  have n03 : (⟨g, o + 3, none⟩ : Addr) ≠ ⟨g, o, none⟩ := addr_ne (by omega)
  have n12 : (⟨g, o + 2, none⟩ : Addr) ≠ ⟨g, o + 1, none⟩ := addr_ne (by omega)
  have n13 : (⟨g, o + 3, none⟩ : Addr) ≠ ⟨g, o + 1, none⟩ := addr_ne (by omega)
  have n23 : (⟨g, o + 3, none⟩ : Addr) ≠ ⟨g, o + 2, none⟩ := addr_ne (by omega)
  refine ⟨?_, ?_, ?_, ?_⟩
  · rw [World.cell?_setCell_other _ _ _ _ n03, World.cell?_setCell_other _ _ _ _ n02, World.cell?_setCell_other _ _ _ _ n01]
    exact World.cell?_setCell_same _ _ _ h.c0
  · rw [World.cell?_setCell_other _ _ _ _ n13, World.cell?_setCell_other _ _ _ _ n12]
    exact World.cell?_setCell_same _ _ _ ((World.cell?_setCell_other _ _ _ _ n01.symm).trans h.c1)
  · rw [World.cell?_setCell_other _ _ _ _ n23]
    refine World.cell?_setCell_same _ _ _ (((World.cell?_setCell_other _ _ _ _ n12.symm).trans (World.cell?_setCell_other _ _ _ _ n02.symm)).trans h.c2)
  · refine World.cell?_setCell_same _ _ _ ((((World.cell?_setCell_other _ _ _ _ n23.symm).trans (World.cell?_setCell_other _ _ _ _ n13.symm)).trans (World.cell?_setCell_other _ _ _ _ n03.symm)).trans h.c3)
theorem kind_set {w : World} {g j : Nat} {u : Value} {t : TypeId} (h : ∃ cs, w.heap[g]? = some (.cells cs t (0, 0))) : ∃ cs, (w.setCell ⟨g, j, none⟩ u).heap[g]? = some (.cells cs t (0, 0)) := by
  obtain ⟨cs, hc⟩ := h
  have e : (w.setCell ⟨g, j, none⟩ u).heap[g]? = some (.cells (cs.setIfInBounds j u) t (0, 0)) := by
    simp [World.setCell, Array.getElem?_modify, hc]
  exact ⟨_, e⟩
/-- one sector has turned -/
theorem RefAt.turn (h : RefAt w r g fr l) {i : Nat} {q : Rc} {s : St} (hi : i < l.length) (hm : Moves [g] w w') (hf : ∀ j : Nat, w'.frozen? ⟨g, j, none⟩ = w.frozen? ⟨g, j, none⟩) (hc : CellsAt w' g (i * 4) q) (hr : Rep q s) (hs : goodS s) (hk : ∃ cs, w'.heap[g]? = some (.cells cs 201 (0, 0)))
    (ho : ∀ p : Nat, (p < i * 4 ∨ i * 4 + 4 ≤ p) → w'.cell? ⟨g, p, none⟩ = w.cell? ⟨g, p, none⟩) : RefAt w' r g fr (l.set i s) := by
  refine ⟨?_, fun j x hj => ?_, fun j => (hf j).trans (h.free j), Nat.lt_of_lt_of_le h.lt hm.size, h.ne, ⟨by rw [List.length_set]; exact h.ok.few, fun x hx => ?_⟩, hk⟩
  · rw [List.length_set]
    exact (hm.block r h.rlt (by have := h.ne; simp; exact this)).trans h.blk
  · rw [List.getElem?_set] at hj
    split at hj
    · rename_i e
      subst e
      first
        | (rw [if_pos hi] at hj; cases hj; exact ⟨q, hc, hr⟩)
        | (cases hj; exact ⟨q, hc, hr⟩)
    · rename_i e
      obtain ⟨q2, h1, h2⟩ := h.row j x hj
      have hne : ∀ k, k < 4 → (j * 4 + k < i * 4 ∨ i * 4 + 4 ≤ j * 4 + k) := fun k hk => by omega
      exact ⟨q2, ⟨(ho _ (hne 0 (by omega))).trans h1.c0, (ho _ (hne 1 (by omega))).trans h1.c1, (ho _ (hne 2 (by omega))).trans h1.c2, (ho _ (hne 3 (by omega))).trans h1.c3⟩, h2⟩
  · rcases List.mem_or_eq_of_mem_set hx with hx | hx
    · exact h.ok.good x hx
    · rw [hx]; exact hs
theorem RefAt.put (h : RefAt w r g fr l) {i : Nat} {q : Rc} {s : St} (hi : i < l.length) (hr : Rep q s) (hs : goodS s) : RefAt (put4 w g (i * 4) q) r g fr (l.set i s) := by
  obtain ⟨q0, h0, _⟩ := h.row i l[i] (List.getElem?_eq_getElem hi)
  refine h.turn hi (put4_moves _ _ _ _) (fun j => by unfold put4; simp) (put4_cells q h0) hr hs (kind_set (kind_set (kind_set (kind_set h.kin)))) (fun p hp => put4_other q (by omega) (by omega) (by omega) (by omega))
theorem RefAt.set0 (h : RefAt w r g fr l) {i : Nat} {q : Rc} {c : Int} {s : St} (hi : i < l.length) (hq : CellsAt w g (i * 4) q) (hr : Rep { q with c := c } s) (hs : goodS s) : RefAt (w.setCell ⟨g, i * 4, none⟩ (.int .i64 c)) r g fr (l.set i s) := by
  refine h.turn (q := { q with c := c }) hi (Moves.set w g _ _ (by simp)) (fun j => by simp) ⟨World.cell?_setCell_same _ _ _ hq.c0, ?_, ?_, ?_⟩ hr hs (kind_set h.kin) (fun p hp => World.cell?_setCell_other _ _ _ _ (addr_ne (by omega)))
  · exact (World.cell?_setCell_other _ _ _ _ (addr_ne (by omega))).trans hq.c1
  · exact (World.cell?_setCell_other _ _ _ _ (addr_ne (by omega))).trans hq.c2
  · exact (World.cell?_setCell_other _ _ _ _ (addr_ne (by omega))).trans hq.c3

/-! New -/
set_option maxHeartbeats 1000000 in
set_option maxRecDepth 20000 in
theorem rnew_bad (f t : Int) (w : World) (h : f < 0 ∨ t < f ∨ 4096 < t) :
    Calls Tryz.prog 52 #[.int .i64 f, .int .i64 t] w fun e w' => e = .returned (.tuple #[.pointer none, .int .i64 1]) ∧ w' = w := by
  by_cases h1 : f < 0
  · go_enter Tryz.func52, Tryz.ntmps52
    go_wp2
    go_ret2
    simp
  · by_cases h2 : t < f
    · go_enter Tryz.func52, Tryz.ntmps52
      go_wp2
      go_ret2
      simp
    · have h3 : 4096 < t := by omega
      clear h
      go_enter Tryz.func52, Tryz.ntmps52
      go_wp2
      go_ret2
      simp
theorem info201 : (Tryz.prog.info? 201).map (fun i => (i.zero, i.size, i.bytes)) = some (some (.agg #[.int .i64 0, .int .i64 0, .int .i64 0, .bool false]), 4, 32) := by kernel_rfl
def mkW (w : World) (k : Nat) : World := w.alloc (.cells (madeCells #[.int .i64 0, .int .i64 0, .int .i64 0, .bool false] (k * 4)) 201)
theorem make_run (w : World) (k : Nat) (h : k ≤ 4096) : (Instr.makeSlice 195 (.int .i64 (k : Int)) (.int .i64 (k : Int))).run Tryz.prog w = .ok (.slice (some ⟨w.heap.size, 0, none⟩) k k) (mkW w k) := by
  obtain ⟨i0, hi, hz0, hz1, hz2⟩ := info_parts info201
  have := run_make (P := Tryz.prog) w 195 201 i0 _ Tryz.underlying195 hi hz0 .i64 .i64 (k : Int) (k : Int) (by omega) (Int.le_refl _) (by rw [hz2]; omega) (by omega)
  rw [this, hz1]
  simp only [Int.toNat_natCast]
  rfl
theorem made_cell (z : Array Value) (n j : Nat) (h : j < n) : (madeCells z n)[j]? = some (z[j % z.size]!) := by
  unfold madeCells
  simp [h]
theorem made_ref (w : World) (f k : Nat) (hok : Ok f (List.replicate k none)) :
    RefAt ((mkW w k).alloc (.cells #[.int .i64 (f : Int), .slice (some ⟨w.heap.size, 0, none⟩) k k] 197)) (w.heap.size + 1) w.heap.size f (List.replicate k none) := by
  have hb : ((mkW w k).alloc (.cells #[.int .i64 (f : Int), .slice (some ⟨w.heap.size, 0, none⟩) k k] 197)).heap[w.heap.size]? = some (.cells (madeCells #[.int .i64 0, .int .i64 0, .int .i64 0, .bool false] (k * 4)) 201 (0, 0)) := by
    rw [Below.heap_alloc _ _ _ (by unfold mkW; simp)]
    unfold mkW
    exact (MapKept.heap_alloc w _).1
  refine ⟨?_, fun i s hi => ?_, fun j => by simp [World.frozen?, hb], ?_, by omega, hok, ⟨_, hb⟩⟩
  · rw [List.length_replicate]
    unfold mkW
    show ((w.heap.push _).push _)[w.heap.size + 1]? = _
    rw [Array.getElem?_push, if_pos (by simp)]
  · rw [List.getElem?_replicate] at hi
    split at hi
    · rename_i hik
      cases hi
      have c : ∀ j, j < 4 → (madeCells #[Value.int .i64 0, .int .i64 0, .int .i64 0, .bool false] (k * 4))[i * 4 + j]? = some ((#[Value.int .i64 0, .int .i64 0, .int .i64 0, .bool false] : Array Value)[j]!) := by
        intro j hj
        rw [made_cell _ _ _ (by omega)]
        have e : (i * 4 + j) % 4 = j := by omega
        show some ((#[Value.int .i64 0, .int .i64 0, .int .i64 0, .bool false] : Array Value)[(i * 4 + j) % 4]!) = _
        rw [e]
      refine ⟨⟨0, 0, 0, false⟩, ⟨?_, ?_, ?_, ?_⟩, rfl, rfl⟩
      · have := c 0 (by omega)
        simp [World.cell?, hb]
        simpa using this
      · have := c 1 (by omega)
        simp [World.cell?, hb]
        simpa using this
      · have := c 2 (by omega)
        simp [World.cell?, hb]
        simpa using this
      · have := c 3 (by omega)
        simp [World.cell?, hb]
        simpa using this
    · cases hi
  · unfold mkW
    simp
    omega
set_option maxHeartbeats 1000000 in
set_option maxRecDepth 20000 in
theorem rnew_ok (f t : Nat) (w : World) (h1 : f ≤ t) (h2 : t ≤ 4096) :
    Calls Tryz.prog 52 #[.int .i64 (f : Int), .int .i64 (t : Int)] w fun e w' => ∃ r g, e = .returned (.tuple #[.pointer (some ⟨r, 0, none⟩), .int .i64 0]) ∧ RefAt w' r g f (newM f t) ∧ Below w.heap.size w w' ∧ w.heap.size ≤ r ∧ w.heap.size ≤ g := by
  have g1 : ¬ (f : Int) < 0 := by omega
  have g2 : ¬ (t : Int) < (f : Int) := by omega
  have g3 : ¬ (4096 : Int) < (t : Int) := by omega
  have hw : IntKind.i64.wrap ((t : Int) - (f : Int)) = ((t - f : Nat) : Int) := by rw [IntKind.wrap_i64]; omega
  have hmk := make_run w (t - f) (by omega)
  have es : (mkW w (t - f)).heap.size = w.heap.size + 1 := by unfold mkW; simp
  have H1 := hide h1
  have H2 := hide h2
  clear h1 h2
  generalize hk : t - f = k at *
  have HK := hide hk
  clear hk
  go_enter Tryz.func52, Tryz.ntmps52
  go_wp2
  go_ret2
  have h1 := unhide H1
  have h2 := unhide H2
  have hk := unhide HK
  subst hk
  refine ⟨w.heap.size + 1, rfl, w.heap.size, made_ref w f (t - f) (Ok.newM h1 h2), ?_, by omega, Nat.le_refl _⟩
  exact ((Below.refl _ w).alloc (Nat.le_refl _) _).alloc (by rw [show (w.alloc _).heap.size = (mkW w (t - f)).heap.size from rfl, es]; omega) _

/-! at -/
set_option maxHeartbeats 1000000 in
set_option maxRecDepth 20000 in
theorem rat_in (n : Int) (w : World) (h : RefAt w r g fr l) (hi : In fr l n) :
    Calls Tryz.prog 106 #[.pointer (some ⟨r, 0, none⟩), .int .i64 n] w fun e w' => e = .returned (.int .i64 (ix fr n : Int)) ∧ Below w.heap.size w w' := by
  have c0 := h.cell0
  have c1 := h.cell1
  have hfew := h.ok.few
  have e0 : (ix fr n : Int) = n - (fr : Int) := by unfold ix; unfold In at hi; omega
  rw [e0]
  have h1 : decide (n < (fr : Int)) = false := decide_eq_false (by unfold In at hi; omega)
  have h2 : n - (fr : Int) < (l.length : Int) := by unfold In at hi; omega
  have hw0 : IntKind.i64.wrap (n - (fr : Int)) = n - (fr : Int) := by rw [IntKind.wrap_i64]; unfold In at hi; omega
  obtain ⟨x, hx⟩ : ∃ x : Int, x = n - (fr : Int) := ⟨_, rfl⟩
  have hw : IntKind.i64.wrap (n - (fr : Int)) = x := by rw [hw0, hx]
  rw [← hx] at h2 ⊢
  clear h hi hfew e0 hw0 hx
  go_enter Tryz.func106, Tryz.ntmps106
  go_wp2_with fail
  go_quiet (fail)
  go_wp2
  go_ret
  exact ⟨rfl, ⟨rfl, rfl, rfl, Nat.le_refl _, fun _ _ => rfl⟩⟩
set_option maxHeartbeats 1000000 in
set_option maxRecDepth 20000 in
theorem rat_out (n : Int) (hn : I64 n) (w : World) (h : RefAt w r g fr l) (hi : ¬ In fr l n) :
    Calls Tryz.prog 106 #[.pointer (some ⟨r, 0, none⟩), .int .i64 n] w fun e w' => e = .returned (.int .i64 (-1)) ∧ Below w.heap.size w w' := by
  have c0 := h.cell0
  have c1 := h.cell1
  have hfew := h.ok.few
  by_cases h1 : n < (fr : Int)
  · clear h hi hfew hn
    go_enter Tryz.func106, Tryz.ntmps106
    go_wp2_with fail
    go_quiet (fail)
    go_wp2
    go_ret
    exact ⟨rfl, ⟨rfl, rfl, rfl, Nat.le_refl _, fun _ _ => rfl⟩⟩
  · have h1' : decide (n < (fr : Int)) = false := decide_eq_false h1
    have h2 : (l.length : Int) ≤ n - (fr : Int) := by unfold In at hi; omega
    have hw0 : IntKind.i64.wrap (n - (fr : Int)) = n - (fr : Int) := by rw [IntKind.wrap_i64]; unfold I64 at hn; omega
    obtain ⟨x, hx⟩ : ∃ x : Int, x = n - (fr : Int) := ⟨_, rfl⟩
    have hw : IntKind.i64.wrap (n - (fr : Int)) = x := by rw [hw0, hx]
    rw [← hx] at h2
    clear h hi hfew h1 hn hw0 hx
    go_enter Tryz.func106, Tryz.ntmps106
    go_wp2_with fail
    go_quiet (fail)
    go_wp2
    go_ret
    exact ⟨rfl, ⟨rfl, rfl, rfl, Nat.le_refl _, fun _ _ => rfl⟩⟩
end Go.Proofs.YtlmgmdnmghgkbaaGreatDoor.L5

/- The document's heap: New. -/
namespace Go.Proofs.YtlmgmdnmghgkbaaGreatDoor
open Go.ChangeShapes Go.WideShapes Go.ChangeAt Go.RowKit
def kz : List Value := List.replicate 4096 (.slice none 0 0)
set_option maxRecDepth 100000 in
theorem build97 (r a : Nat) (g : Int) (w : World) : (Instr.build 120 #[(0, .pointer (some ⟨r, 0, none⟩)), (1, .pointer (some ⟨a, 0, none⟩)), (2, .int .i64 g)]).run Tryz.prog w = .ok (.agg (.pointer (some ⟨r, 0, none⟩) :: .pointer (some ⟨a, 0, none⟩) :: .int .i64 g :: kz).toArray) w := by kernel_rfl
set_option maxRecDepth 100000 in
theorem box97 (cs : List Value) (w : World) : (Instr.box 120 (.agg (cs).toArray)).run Tryz.prog w = .ok (.pointer (some ⟨w.heap.size, 0, none⟩)) (w.alloc (.cells cs.toArray 120)) := by kernel_rfl
/-- such an operation, as the walk meets it -/
theorem wp_build97 {ops : Array Oper} {rest : List Oper} {o : Oper} {a : Act} {Q : Exit → Act → World → Prop} {w : World} {x y : Nat} {g : Int}
    (hg : o.guard = none) (o0 o1 o2 : Operand) (hop : o.op = Op.build 120 #[(0, o0), (1, o1), (2, o2)]) (h0 : a.eval o0 = .pointer (some ⟨x, 0, none⟩)) (h1 : a.eval o1 = .pointer (some ⟨y, 0, none⟩)) (h2 : a.eval o2 = .int .i64 g)
    (h : ∀ v, v = .agg (.pointer (some ⟨x, 0, none⟩) :: .pointer (some ⟨y, 0, none⟩) :: .int .i64 g :: kz).toArray → wpList Tryz.prog ops Q rest (a.put o.dst v) w) : wpList Tryz.prog ops Q (o :: rest) a w := by
  refine wpList_plain hg fun K' hK' => ?_
  have hr := build97 x y g w
  unfold Oper.wp
  simp only [execOp, hop, h0, h1, h2, List.map_toArray, List.map_cons, List.map_nil, Sem.run_bind, hr, Result.andThen_ok]
  exact hK' _ _ (h _ rfl)
theorem wp_box97 {ops : Array Oper} {rest : List Oper} {o : Oper} {a : Act} {Q : Exit → Act → World → Prop} {w : World} {cs : List Value}
    (hg : o.guard = none) (o0 : Operand) (hop : o.op = Op.box 120 o0) (h0 : a.eval o0 = .agg cs.toArray)
    (h : ∀ w', w' = w.alloc (.cells cs.toArray 120) → wpList Tryz.prog ops Q rest (a.put o.dst (.pointer (some ⟨w.heap.size, 0, none⟩))) w') : wpList Tryz.prog ops Q (o :: rest) a w := by
  refine wpList_plain hg fun K' hK' => ?_
  have hr := box97 cs w
  unfold Oper.wp
  simp only [execOp, hop, h0, Sem.run_bind, hr, Result.andThen_ok]
  exact hK' _ _ (h _ rfl)
theorem newM_len (n : Nat) : (L3.newM n).old.length = n := by
  show (List.replicate n _).length = n
  rw [List.length_replicate]
variable {r : Nat} {m : L3.Dk} {fr : List Nat}
theorem ranew2 (t : Nat) (w : World) (h1 : 2 ≤ t) (h2 : t ≤ 4096) :
    Calls Tryz.prog 52 #[.int .i64 2, .int .i64 (t : Int)] w fun e w' => ∃ r g, e = .returned (.tuple #[.pointer (some ⟨r, 0, none⟩), .int .i64 0]) ∧ L5.RefAt w' r g 2 (L5.newM 2 t) ∧ Below w.heap.size w w' ∧ w.heap.size ≤ r ∧ w.heap.size ≤ g := L5.rnew_ok 2 t w h1 h2
set_option maxHeartbeats 1000000 in
set_option maxRecDepth 20000 in
theorem rhnew_ok (g : Int) (w : World) (H : L3.IsRef w r m fr) (h1 : ¬ g < 0) (h2 : ¬ 1152921504606846976 < g) (h3 : ¬ m.old.length < 8) :
    Calls Tryz.prog 17 #[.pointer (some ⟨r, 0, none⟩), .int .i64 g] w fun e w' => ∃ p a b, e = .returned (.tuple #[.pointer (some ⟨p, 0, none⟩), .int .i64 0]) ∧ L5.RefAt w' a b 2 (L5.newM 2 m.old.length) ∧ w'.heap[p]? = some (.cells (.pointer (some ⟨r, 0, none⟩) :: .pointer (some ⟨a, 0, none⟩) :: .int .i64 g :: kz).toArray 120 (0, 0)) ∧ Below w.heap.size w w' ∧ w.heap.size ≤ p ∧ w.heap.size ≤ a ∧ w.heap.size ≤ b := by
  obtain ⟨ov, pv, H, rfl⟩ := H
  have h4 : ¬ (m.old.length : Int) < 8 := by omega
  have hfew := H.ok.many
  have h2s : 2 ≤ m.old.length := by omega
  have c0 := H.cell0
  obtain ⟨a0, cap0, rfl⟩ := L3.ownsRow_form H.old
  have HF := hide hfew
  have H2 := hide h2s
  clear H hfew h3 h2s
  go_enter Tryz.func17, Tryz.ntmps17
  go_wp2_with (first
    | (go_at_call 52; refine (ranew2 m.old.length _ (unhide H2) (unhide HF)).mono ?_; rintro e w2 ⟨a, b, rfl, ha, hb, hl⟩; have HX := hide (And.intro ha (And.intro hb hl)); clear ha hb hl)
    | (refine wp_build97 rfl _ _ _ rfl rfl rfl rfl ?_; intro v hv; have HV := hide hv; clear hv)
    | (refine wp_box97 rfl _ rfl (unhide HV) ?_; intro w3 hw3; have HW := hide hw3; clear hw3))
  go_ret2
  obtain ⟨ha, hb, hla, hlb⟩ := unhide HX
  have hw := unhide HW
  subst hw
  have hb2 := below_alloc w2 (.cells (.pointer (some ⟨r, 0, none⟩) :: .pointer (some ⟨a, 0, none⟩) :: .int .i64 g :: kz).toArray 120)
  exact ⟨w2.heap.size, a, b, rfl, ha.grow hb2, heap_alloc_new _ _, below_then hb hb2, hb.size, hla, hlb⟩

set_option maxHeartbeats 1000000 in
set_option maxRecDepth 20000 in
/-- a heap on a new disk, and the document's -/
theorem begun_ok (n : Nat) (w : World) (hT : L4.Tab w) (h8 : 8 ≤ n) (hn : n ≤ 4096) :
    Calls Tryz.prog 44 #[.int .i64 (n : Int), .int .i64 1] w fun e w' => ∃ p q d F, e = .returned (.tuple #[.pointer (some ⟨p, 0, none⟩), .pointer (some ⟨q, 0, none⟩), .pointer (some ⟨d, 0, none⟩)]) ∧ IsHeap w' p d (newH (L3.newM n) 1) 0 F ∧ Below w.heap.size w w' ∧ ∀ x ∈ F, w.heap.size ≤ x := by
  have HT := hide hT
  have H8 := hide h8
  have HN := hide hn
  have hsz : 0 < w.heap.size := World.block_lt_of_cell? w ⟨0, 0, none⟩ (hT 0 (by omega))
  have HSZ := hide hsz
  clear hT h8 hn hsz
  go_enter Tryz.func44, Tryz.ntmps44
  go_wp2_with (first
    | (go_at_call 14; refine (L3.new_any (n : Int) _ (by have := unhide H8; omega) (by have := unhide HN; omega)).mono ?_; rintro e w1 ⟨d, fd, rfl, hd, hb1, hf1⟩; have HD := hide (And.intro hd hf1); have HB1 := hide hb1; clear hd hb1 hf1)
    | (go_at_call 15; refine (L3.rnew_any n _ (by have := unhide H8; omega) (unhide HN)).mono ?_; rintro e w2 ⟨r, fr, rfl, hr, hb2, hf2⟩; have HR := hide hr; have HD2 := hide ((unhide HD).1.grow hb2); have HB2 := hide (below_then (unhide HB1) hb2); clear hr hb2 hf2)
    | (go_at_call 16; refine (hnew_ok 1 _ (unhide HD2) (tab_keep (unhide HT) (L5.Moves.of_below [] (unhide HB2)) List.not_mem_nil) (fun x hx => by have := (unhide HD).2 x hx; have := unhide HSZ; omega) (by decide) (by decide) (by rw [show ((n : Int)).toNat = n from rfl, newM_len]; have := unhide H8; omega)).mono ?_; rintro e w3 ⟨p, F, rfl, hp, hb3, hf3⟩; have HP := hide hp; have HR3 := hide ((unhide HR).grow hb3); have HB3 := hide (below_then (unhide HB2) hb3); have HF3 := hide hf3; clear hp hb3 hf3)
    | (go_at_call 17; refine (rhnew_ok 1 _ (unhide HR3) (by decide) (by decide) (by rw [newM_len]; have := unhide H8; omega)).mono ?_; rintro e w4 ⟨q, a, b, rfl, ha, hq, hb4, hlq, hla, hlb⟩; have HP4 := hide ((unhide HP).grow hb4); have HB4 := hide (below_then (unhide HB3) hb4); clear ha hq hb4 hlq hla hlb))
  refine bodyPost_ret (results_tmp3 rfl _ _ _) rfl ?_
  refine ⟨p, q, d, F, rfl, unhide HP4, unhide HB4, fun x hx => ?_⟩
  rcases unhide HF3 x hx with h1 | h1
  · exact (unhide HD).2 x h1
  · exact Nat.le_trans (unhide HB2).size h1
end Go.Proofs.YtlmgmdnmghgkbaaGreatDoor
