/- Texts that the proof needs, one behind the other. -/
import Derived.Test.YtdelobaiicoogaaGreatDoorMbm
import Derived.Test.YtdelobaiicoogaaGreatDoorMbj
import Derived.Test.YtdelobaiicoogaaGreatDoorMax
import Derived.BigQuiet
/- changed: a tree of one leaf is made of another one, or of none. -/
namespace Go.Proofs.YtdelobaiicoogaaGreatDoor
open Go.ChangeShapes Go.WideShapes Go.ChangeAt Go.RowKit
attribute [local go_sem] Oper.semAt_some
variable {p d : Nat} {h : Hp} {c : Nat} {F : List Nat}

theorem RowD.set {W : World} {a : Option Addr} {l : List L6.It} {x : Nat} (h : RowD W a l) (hx : ∀ b off, a = some ⟨b, off, none⟩ → x ≠ b) (j : Nat) (v : Value) : RowD (W.setCell ⟨x, j, none⟩ v) a l := by
  rcases h with h | ⟨b, off, e, h⟩
  · exact .inl h
  · have hne := hx b off e
    refine .inr ⟨b, off, e, fun k y hy => ?_⟩
    obtain ⟨q0, q1, q2, q3, q4, q5⟩ := h k y hy
    have g : ∀ i u, W.cell? ⟨b, i, none⟩ = some u → (W.setCell ⟨x, j, none⟩ v).cell? ⟨b, i, none⟩ = some u := fun i u hu => (World.cell?_setCell_other _ _ _ _ (by first | (simp; done) | (simp; omega))).trans hu
    exact ⟨g _ _ q0, g _ _ q1, g _ _ q2, g _ _ q3, g _ _ q4, g _ _ q5⟩
/-- a planned leaf whose row is this new -/
def Kp (l : List L6.It) (B : Nat) (g : Nat) (W : World) : Prop := ∃ b off cap, W.heap[g]? = some (planE ⟨#[]⟩ (some ⟨b, off, none⟩) l.length cap) ∧ RowD W (some ⟨b, off, none⟩) l ∧ B ≤ b
theorem Kp.grow {l : List L6.It} {B : Nat} : ∀ g W W', Kp l B g W → Below W.heap.size W W' → Kp l B g W' := by
  rintro g W W' ⟨b, off, cap, h1, h2, h3⟩ hb
  exact ⟨b, off, cap, (hb.block g (Array.getElem?_eq_some_iff.1 h1).1).trans h1, h2.grow hb, h3⟩
theorem Kp.mono {l : List L6.It} {B B' g : Nat} {W : World} (h : Kp l B g W) (hB : B' ≤ B) : Kp l B' g W := by
  obtain ⟨b, off, cap, h1, h2, h3⟩ := h
  exact ⟨b, off, cap, h1, h2, Nat.le_trans hB h3⟩
theorem Kp.set {l : List L6.It} {B g x : Nat} {W : World} (h : Kp l B g W) (hg : x ≠ g) (hB : x < B) (j : Nat) (v : Value) : Kp l B g (W.setCell ⟨x, j, none⟩ v) := by
  obtain ⟨b, off, cap, h1, h2, h3⟩ := h
  refine ⟨b, off, cap, (Below.heap_setCell _ _ _ g (fun e => hg e.symm)).trans h1, h2.set (fun b' off' e => ?_) j v, h3⟩
  injection e with e
  injection e with e1 e2 e3
  omega

set_option maxHeartbeats 8000000 in
set_option maxRecDepth 20000 in
theorem changed_leaf (r : Int) (its l' : List L6.It) (ai ak : Option Addr) (ci ck kc vc : Nat) (w : World) (H : IsHeap w p d h c F) (hl : l'.length ≤ 1100) (hbare : h.bare) (hc : c ≤ 999990) (hok : (putR h ⟨true, l', []⟩).2.1 = 0)
    (hUS : ∀ (M B : Nat) (W : World), Below w.heap.size w W → B ≤ W.heap.size → W.cell? ⟨M, 5, none⟩ = some (.slice none 0 0) → W.cell? ⟨M, 6, none⟩ = some (.bool true) → W.cell? ⟨M, 7, none⟩ = some (.slice ai its.length ci) → W.cell? ⟨M, 8, none⟩ = some (.slice ak 0 ck) → W.cell? ⟨M, 9, none⟩ = some (.func (.func 46) #[] #[.pointer (some ⟨kc, 0, none⟩), .pointer (some ⟨vc, 0, none⟩)]) → Calls Tryz.prog 149 #[.pointer (some ⟨M, 0, none⟩)] W fun e w' => PlanSaid W (Kp l' B) e w') :
    Calls Tryz.prog 45 #[.pointer (some ⟨p, 0, none⟩), .int .i64 r, .slice none 0 0, .agg #[.bool true, .slice ai its.length ci, .slice ak 0 ck], .func (.func 46) #[] #[.pointer (some ⟨kc, 0, none⟩), .pointer (some ⟨vc, 0, none⟩)]] w fun e w' => e = .returned (.tuple #[.int .i64 (putR h ⟨true, l', []⟩).1, .int .i64 0]) ∧ HTurned w w' p d (putR h ⟨true, l', []⟩).2.2 (c + 2) F := by
  have hx := heap_alloc_new w (.cells #[.bool true, .slice ai its.length ci, .slice ak 0 ck] 38)
  obtain ⟨hcx, _⟩ := blk_facts hx
  have x0 := hcx 0 _ rfl
  have x1 := hcx 1 _ rfl
  have x2 := hcx 2 _ rfl
  clear hcx hx
  have HP := hide (fun W : World => pressOf_any p W)
  have hsz := World.size_alloc w (.cells #[.bool true, .slice ai its.length ci, .slice ak 0 ck] 38)
  have hfd : ∀ (v1 v2 v3 : Value) (w : World), (Instr.field 187 (.agg #[v1, v2, v3]) 0).run Tryz.prog w = .ok v1 w := fun _ _ _ _ => rfl
  have hmf : ∀ (fn : Fn) (first cap : Array Value) (w : World), (Instr.makeFunc fn first cap).run Tryz.prog w = .ok (.func fn first cap) w := fun _ _ _ _ => rfl
  have HUS := hide hUS
  have HH := hide H
  have HA := hide (And.intro hl (And.intro hbare (And.intro hc hok)))
  clear hUS H hl hbare hc hok
  go_enter_defers Tryz.func45, Tryz.ntmps45
  go_wp2_with fail
  have b2 := below_alloc (w.alloc (.cells #[.bool true, .slice ai its.length ci, .slice ak 0 ck] 38)) (.cells #[.int .i64 0] 3)
  have hlt : w.heap.size < (w.alloc (.cells #[.bool true, .slice ai its.length ci, .slice ak 0 ck] 38)).heap.size := by rw [World.size_alloc]; omega
  have y0 : ((w.alloc (.cells #[.bool true, .slice ai its.length ci, .slice ak 0 ck] 38)).alloc (.cells #[.int .i64 0] 3)).drew.cell? ⟨w.heap.size, 0, none⟩ = some (.bool true) := (b2.cell (p := ⟨w.heap.size, 0, none⟩) hlt).trans x0
  have y1 : ((w.alloc (.cells #[.bool true, .slice ai its.length ci, .slice ak 0 ck] 38)).alloc (.cells #[.int .i64 0] 3)).drew.cell? ⟨w.heap.size, 1, none⟩ = some (.slice ai its.length ci) := (b2.cell (p := ⟨w.heap.size, 1, none⟩) hlt).trans x1
  have y2 : ((w.alloc (.cells #[.bool true, .slice ai its.length ci, .slice ak 0 ck] 38)).alloc (.cells #[.int .i64 0] 3)).drew.cell? ⟨w.heap.size, 2, none⟩ = some (.slice ak 0 ck) := (b2.cell (p := ⟨w.heap.size, 2, none⟩) hlt).trans x2
  have HA0 : Hid (((w.alloc (.cells #[.bool true, .slice ai its.length ci, .slice ak 0 ck] 38)).alloc (.cells #[.int .i64 0] 3)).heap[w.heap.size + 1]? = some (.cells #[.int .i64 0] 3 (0, 0))) := by
    have hq := heap_alloc_new (w.alloc (.cells #[.bool true, .slice ai its.length ci, .slice ak 0 ck] 38)) (.cells #[.int .i64 0] 3)
    rw [World.size_alloc] at hq
    exact hq
  have HBW : Hid (Below w.heap.size w ((w.alloc (.cells #[.bool true, .slice ai its.length ci, .slice ak 0 ck] 38)).alloc (.cells #[.int .i64 0] 3))) := below_then (below_alloc w _) b2
  clear x0 x1 x2 hlt
  have hs2 := World.size_alloc (w.alloc (.cells #[.bool true, .slice ai its.length ci, .slice ak 0 ck] 38)) (.cells #[.int .i64 0] 3)
  have HSZ : Hid (((w.alloc (.cells #[.bool true, .slice ai its.length ci, .slice ak 0 ck] 38)).alloc (.cells #[.int .i64 0] 3)).heap.size = w.heap.size + 2) := by show _ = _; omega
  clear hsz hs2 b2
  generalize ((w.alloc (.cells #[.bool true, .slice ai its.length ci, .slice ak 0 ck] 38)).alloc (.cells #[.int .i64 0] 3)) = w1 at *
  go_cut [12] from 12 to 21 (fun s12 wc => ∃ b M m1 m2, s12 = .pointer (some ⟨b, 0, none⟩) ∧ wc.cell? ⟨b, 0, none⟩ = some (.pointer (some ⟨M, 0, none⟩)) ∧ wc.heap[M]? = some (.cells #[.pointer (some ⟨p, 0, none⟩), .map (some m1), .int .i64 0, .map (some m2), .int .i64 r, .slice none 0 0, .bool true, .slice ai its.length ci, .slice ak 0 ck, .func (.func 46) #[] #[.pointer (some ⟨kc, 0, none⟩), .pointer (some ⟨vc, 0, none⟩)], .slice none 0 0] 184 (0, 0)) ∧ w1.heap.size ≤ b ∧ w1.heap.size ≤ M ∧ b ≠ M ∧ Below w1.heap.size w1 wc)
  case first =>
    have KP : Hid (∀ wa wb, (fun w' => Below w1.heap.size w1 w' ∧ w'.cell? ⟨w.heap.size, 0, none⟩ = some (.bool true) ∧ w'.cell? ⟨w.heap.size, 1, none⟩ = some (.slice ai its.length ci) ∧ w'.cell? ⟨w.heap.size, 2, none⟩ = some (.slice ak 0 ck)) wa → Below wa.heap.size wa wb → (fun w' => Below w1.heap.size w1 w' ∧ w'.cell? ⟨w.heap.size, 0, none⟩ = some (.bool true) ∧ w'.cell? ⟨w.heap.size, 1, none⟩ = some (.slice ai its.length ci) ∧ w'.cell? ⟨w.heap.size, 2, none⟩ = some (.slice ak 0 ck)) wb) := fun wa wb h hb =>
      ⟨below_then h.1 hb, (hb.cell (World.block_lt_of_cell? wa _ h.2.1)).trans h.2.1, (hb.cell (World.block_lt_of_cell? wa _ h.2.2.1)).trans h.2.2.1, (hb.cell (World.block_lt_of_cell? wa _ h.2.2.2)).trans h.2.2.2⟩
    have H0 : Hid ((fun w' => Below w1.heap.size w1 w' ∧ w'.cell? ⟨w.heap.size, 0, none⟩ = some (.bool true) ∧ w'.cell? ⟨w.heap.size, 1, none⟩ = some (.slice ai its.length ci) ∧ w'.cell? ⟨w.heap.size, 2, none⟩ = some (.slice ak 0 ck)) w1.drew) := ⟨(Below.refl _ _).drew, y0, y1, y2⟩
    have K1 : Hid (∀ wa o, (fun w' => Below w1.heap.size w1 w' ∧ w'.cell? ⟨w.heap.size, 0, none⟩ = some (.bool true) ∧ w'.cell? ⟨w.heap.size, 1, none⟩ = some (.slice ai its.length ci) ∧ w'.cell? ⟨w.heap.size, 2, none⟩ = some (.slice ak 0 ck)) wa → (fun w' => Below w1.heap.size w1 w' ∧ w'.cell? ⟨w.heap.size, 0, none⟩ = some (.bool true) ∧ w'.cell? ⟨w.heap.size, 1, none⟩ = some (.slice ai its.length ci) ∧ w'.cell? ⟨w.heap.size, 2, none⟩ = some (.slice ak 0 ck)) (wa.alloc o)) := fun wa o h => unhide KP _ _ h (below_alloc wa o)
    have KS : Hid (∀ wa b v, (fun w' => Below w1.heap.size w1 w' ∧ w'.cell? ⟨w.heap.size, 0, none⟩ = some (.bool true) ∧ w'.cell? ⟨w.heap.size, 1, none⟩ = some (.slice ai its.length ci) ∧ w'.cell? ⟨w.heap.size, 2, none⟩ = some (.slice ak 0 ck)) wa → w1.heap.size ≤ b → (fun w' => Below w1.heap.size w1 w' ∧ w'.cell? ⟨w.heap.size, 0, none⟩ = some (.bool true) ∧ w'.cell? ⟨w.heap.size, 1, none⟩ = some (.slice ai its.length ci) ∧ w'.cell? ⟨w.heap.size, 2, none⟩ = some (.slice ak 0 ck)) (wa.setCell ⟨b, 0, none⟩ v)) := fun wa b v h hb => by
      have hlt : w.heap.size < w1.heap.size := by have := unhide HSZ; omega
      refine ⟨L6.below_store h.1 b 0 v hb, ?_, ?_, ?_⟩
      · exact (World.cell?_setCell_other _ _ _ _ (by first | (simp; done) | (simp; omega))).trans h.2.1
      · exact (World.cell?_setCell_other _ _ _ _ (by simp)).trans h.2.2.1
      · exact (World.cell?_setCell_other _ _ _ _ (by simp)).trans h.2.2.2
    go_region_held3 (fun w' => Below w1.heap.size w1 w' ∧ w'.cell? ⟨w.heap.size, 0, none⟩ = some (.bool true) ∧ w'.cell? ⟨w.heap.size, 1, none⟩ = some (.slice ai its.length ci) ∧ w'.cell? ⟨w.heap.size, 2, none⟩ = some (.slice ak 0 ck))
      (first | assumption | (exact unhide H0) | (exact unhide K1 _ _ (by assumption)) | (exact unhide K1 _ _ (unhide H0)) | (exact unhide K1 _ _ (unhide K1 _ _ (by assumption))) | (exact unhide KS _ _ _ (by first | assumption | exact unhide K1 _ _ (by assumption) | exact unhide K1 _ _ (unhide K1 _ _ (by assumption))) (by first | exact Nat.le_refl _ | (have := H2.1.size; simp only [World.size_alloc]; omega))))
      (first | (go_at_call 81; refine (unhide HP _).mono ?_; rintro e w2 ⟨m1, m2, rfl, hm1, hm2, hb⟩; have H2 := unhide KP _ _ (by first | assumption | exact unhide H0 | exact unhide K1 _ _ (unhide H0)) hb; have HB2 := hide (And.intro hm1 (And.intro hm2 hb)); (try (have zb : w2.heap[w1.heap.size]? = some (.cells #[.pointer none] 178 (0, 0)) := (hb.block w1.heap.size (by simp)).trans (heap_alloc_new w1.drew (.cells #[.pointer none] 178)); obtain ⟨zc, zf⟩ := blk_facts zb; have z0 := zc 0 _ rfl; have z0' := ((below_alloc w2 (.cells #[.pointer (some ⟨p, 0, none⟩), .map (some m1), .int .i64 0, .map (some m2), .int .i64 r, .slice none 0 0, .bool true, .slice ai its.length ci, .slice ak 0 ck, .func (.func 46) #[] #[.pointer (some ⟨kc, 0, none⟩), .pointer (some ⟨vc, 0, none⟩)], .slice none 0 0] 184)).cell (World.block_lt_of_cell? w2 _ z0)).trans z0; have zf' : (w2.alloc (.cells #[.pointer (some ⟨p, 0, none⟩), .map (some m1), .int .i64 0, .map (some m2), .int .i64 r, .slice none 0 0, .bool true, .slice ai its.length ci, .slice ak 0 ck, .func (.func 46) #[] #[.pointer (some ⟨kc, 0, none⟩), .pointer (some ⟨vc, 0, none⟩)], .slice none 0 0] 184)).frozen? ⟨w1.heap.size, 0, none⟩ = false := (blk_facts (((below_alloc w2 (.cells #[.pointer (some ⟨p, 0, none⟩), .map (some m1), .int .i64 0, .map (some m2), .int .i64 r, .slice none 0 0, .bool true, .slice ai its.length ci, .slice ak 0 ck, .func (.func 46) #[] #[.pointer (some ⟨kc, 0, none⟩), .pointer (some ⟨vc, 0, none⟩)], .slice none 0 0] 184)).block w1.heap.size (World.block_lt_of_cell? w2 _ z0)).trans zb)).2 0; clear zc)); clear hm1 hm2 hb))
    all_goals
      go_wp2_with fail
      go_meet
      rename_i hHeld
      have q1 := H2.1.size
      have q2 : ∀ x, x = w1.heap.size → w1.heap.size < w2.heap.size → x ≠ w2.heap.size := fun x e h => by omega
      first
        | (refine ⟨_, w2.heap.size, m1, m2, rfl, ?_, ?_, ?_, ?_, ?_, hHeld.1⟩
           · first
               | (exact World.cell?_setCell_same _ _ _ z0')
               | (simp; done)
           · first
               | (exact ((below_alloc _ _).block w2.heap.size (by rw [World.size_alloc]; omega)).trans (heap_alloc_new w2 _))
               | (exact (Below.heap_setCell _ _ _ _ (by have h9 : w1.heap.size < w2.heap.size := World.block_lt_of_cell? w2 _ z0; show w2.heap.size ≠ w1.heap.size; omega)).trans (heap_alloc_new w2 _))
           · omega
           · omega
           · first | omega | (have h9 : w1.heap.size < w2.heap.size := World.block_lt_of_cell? w2 _ z0; omega))
        | (refine ⟨_, w2.heap.size + 1, m1, m2, rfl, ?_, ?_, ?_, ?_, ?_, hHeld.1⟩
           · exact (blk_facts (((below_alloc _ _).block w2.heap.size (by rw [World.size_alloc]; omega)).trans (heap_alloc_new w2 _))).1 0 _ rfl
           · have hq := heap_alloc_new (w2.alloc (.cells #[.pointer (some ⟨w2.heap.size + 1, 0, none⟩)] 178)) (.cells #[.pointer (some ⟨p, 0, none⟩), .map (some m1), .int .i64 0, .map (some m2), .int .i64 r, .slice none 0 0, .bool true, .slice ai its.length ci, .slice ak 0 ck, .func (.func 46) #[] #[.pointer (some ⟨kc, 0, none⟩), .pointer (some ⟨vc, 0, none⟩)], .slice none 0 0] 184)
             rw [World.size_alloc] at hq
             exact hq
           · omega
           · omega
           · omega)
  case rest =>
    obtain ⟨b, M, m1, m2, rfl, cb, hM, hb1, hM1, hbM, hbel⟩ := hcut
    clear y0 y1 y2 HP
    have hz := unhide HSZ
    have hMlt : M < wc.heap.size := (Array.getElem?_eq_some_iff.1 hM).1
    have hblt : b < wc.heap.size := World.block_lt_of_cell? wc _ cb
    have hBC := below_then (unhide HBW) hbel
    have cM : ∀ W2 : World, Below wc.heap.size wc W2 → W2.heap[M]? = some (.cells #[.pointer (some ⟨p, 0, none⟩), .map (some m1), .int .i64 0, .map (some m2), .int .i64 r, .slice none 0 0, .bool true, .slice ai its.length ci, .slice ak 0 ck, .func (.func 46) #[] #[.pointer (some ⟨kc, 0, none⟩), .pointer (some ⟨vc, 0, none⟩)], .slice none 0 0] 184 (0, 0)) := fun W2 hb => (hb.block M hMlt).trans hM
    have HBest := hide (best_any M (Kp l' (wc.heap.size + 1)) Kp.grow wc ((blk_facts hM).1 5 _ rfl) (fun W hW hlt => (simple_any M (Kp l' (W.heap.size + 1)) W ((blk_facts (cM W hW)).1 5 _ rfl)
      (fun W2 hW2 hlt2 => unhide HUS M (W.heap.size + 1) W2 (below_then hBC (below_then hW hW2)) (by omega) ((blk_facts (cM W2 (below_then hW hW2))).1 5 _ rfl) ((blk_facts (cM W2 (below_then hW hW2))).1 6 _ rfl) ((blk_facts (cM W2 (below_then hW hW2))).1 7 _ rfl) ((blk_facts (cM W2 (below_then hW hW2))).1 8 _ rfl) ((blk_facts (cM W2 (below_then hW hW2))).1 9 _ rfl))
      (fun g W3 j v hg hk => hk.set (by omega) (by omega) j v)).mono (fun e w' hh => by
        obtain ⟨g, he, hg, hk, hb⟩ := hh
        exact ⟨g, he, hg, hk.mono (by omega), hb⟩)) (fun g W j v hg hk => hk.set (by omega) (by omega) j v))
    obtain ⟨pa, pb, pk, fd, kf, H0, rfl⟩ := unhide HH
    have HH0 := hide H0
    have HM := hide hM
    have HCM := hide cM
    have HN := hide (And.intro hb1 (And.intro hM1 (And.intro hbM (And.intro hMlt hblt))))
    have HBC := hide hBC
    have HA1 : Hid (wc.heap[w.heap.size + 1]? = some (.cells #[.int .i64 0] 3 (0, 0))) := (hbel.block (w.heap.size + 1) (by omega)).trans (unhide HA0)
    clear HH H0 hM cM hb1 hM1 hbM hMlt hblt hBC HUS HA0 hbel hz
    go_wp2_with fail
    refine (unhide HBest).mono ?_
    rintro e w2 ⟨g, rfl, hg, ⟨rb, ro, rc, hgp, hrow, hrb⟩, hb⟩
    unfold planV
    have d12 := (hb.cell (World.block_lt_of_cell? wc _ cb)).trans cb
    have hM2 := unhide HCM w2 hb
    obtain ⟨mc, _⟩ := blk_facts hM2
    have n0 := mc 0 _ rfl
    have n2 := mc 2 _ rfl
    have n10 := mc 10 _ rfl
    unfold planE at hgp
    obtain ⟨gc, _⟩ := blk_facts hgp
    have g0 := gc 0 _ rfl
    have g1 := gc 1 _ rfl
    have g2 := gc 2 _ rfl
    have g3 := gc 3 _ rfl
    have g4 := gc 4 _ rfl
    have g5 := gc 5 _ rfl
    obtain ⟨P, hP⟩ : ∃ x, x = (putR h ⟨true, l', []⟩).1 := ⟨_, rfl⟩
    obtain ⟨hb1, hM1, hbM, hMlt, hblt⟩ := unhide HN
    have hz := unhide HSZ
    have hMF : M ∉ foot p pa pb pk fd := fun hx => by have := (unhide HH0).lt M hx; omega
    have hbF : b ∉ M :: foot p pa pb pk fd := fun hx => by
      rcases List.mem_cons.1 hx with q | q
      · exact hbM q
      · have := (unhide HH0).lt b q; omega
    have hgF : g ∉ M :: foot p pa pb pk fd := fun hx => by
      rcases List.mem_cons.1 hx with q | q
      · omega
      · have := (unhide HH0).lt g q
        have := (unhide HBC).size
        omega
    have hAF : w.heap.size + 1 ∉ M :: foot p pa pb pk fd := fun hx => by
      rcases List.mem_cons.1 hx with q | q
      · omega
      · have := (unhide HH0).lt _ q; omega
    have hput := put_leafS M ⟨#[]⟩ l' (some ⟨rb, ro, none⟩) rc w2.drew ((unhide HH0).grow (below_then (unhide HBC) hb).drew) ⟨_, hM2⟩ n0 n10 hMF (hrow.grow (below_drew _)) (unhide HA).1 (unhide HA).2.1 (unhide HA).2.2.1 (unhide HA).2.2.2
    rw [← hP] at hput
    have HPut := hide hput
    have HPE := hide hP
    have HA2 : Hid (w2.heap[w.heap.size + 1]? = some (.cells #[.int .i64 0] 3 (0, 0))) := (hb.block (w.heap.size + 1) (by have := (unhide HBC).size; omega)).trans (unhide HA1)
    have HBD := hide (below_then (unhide HBC) hb)
    have HF := hide (And.intro hMF (And.intro hbF (And.intro hgF hAF)))
    have HG := hide hg
    have HW2 : Hid (wc.heap.size ≤ w2.heap.size) := hb.size
    clear hP hput hgp hrow hrb hb hM2 mc gc hMF hbF hgF hAF hb1 hM1 hbM hMlt hblt hz hg HBest HCM HM HA1 n0 n10
    go_wp2_with fail
    have HS4 : Hid (∀ w4 : World, Moves (M :: foot p pa pb pk fd) w2.drew w4 → w4.cell? ⟨b, 0, none⟩ = some (.pointer (some ⟨M, 0, none⟩)) ∧ w4.cell? ⟨g, 0, none⟩ = some (.string ⟨#[]⟩) ∧ w4.cell? ⟨g, 1, none⟩ = some (.string ⟨#[]⟩) ∧ w4.cell? ⟨g, 2, none⟩ = some (.int .i64 0) ∧ w4.cell? ⟨g, 3, none⟩ = some (.bool true) ∧ w4.cell? ⟨g, 4, none⟩ = some (.slice (some ⟨rb, ro, none⟩) l'.length rc) ∧ w4.cell? ⟨g, 5, none⟩ = some (.int .i64 1)) := fun w4 hm => by
      obtain ⟨_, f2, f3, _⟩ := unhide HF
      exact ⟨cell_moves (w := w2.drew) hm d12 f2, cell_moves (w := w2.drew) hm g0 f3, cell_moves (w := w2.drew) hm g1 f3, cell_moves (w := w2.drew) hm g2 f3, cell_moves (w := w2.drew) hm g3 f3, cell_moves (w := w2.drew) hm g4 f3, cell_moves (w := w2.drew) hm g5 f3⟩
    have HA4 : Hid (∀ w4 : World, Moves (M :: foot p pa pb pk fd) w2.drew w4 → w4.heap[w.heap.size + 1]? = some (.cells #[.int .i64 0] 3 (0, 0))) := fun w4 hm => (hm.block (w.heap.size + 1) (Array.getElem?_eq_some_iff.1 (unhide HA2)).1 (unhide HF).2.2.2).trans (unhide HA2)
    have e0 := g0
    have HSX : Hid (∀ (w4 : World) (v : Value), Moves (M :: foot p pa pb pk fd) w2.drew w4 → (fun w' => w'.cell? ⟨b, 0, none⟩ = some (.pointer (some ⟨M, 0, none⟩)) ∧ w'.cell? ⟨g, 0, none⟩ = some (.string ⟨#[]⟩) ∧ w'.cell? ⟨g, 1, none⟩ = some (.string ⟨#[]⟩) ∧ w'.cell? ⟨g, 2, none⟩ = some (.int .i64 0) ∧ w'.cell? ⟨g, 3, none⟩ = some (.bool true) ∧ w'.cell? ⟨g, 4, none⟩ = some (.slice (some ⟨rb, ro, none⟩) l'.length rc) ∧ w'.cell? ⟨g, 5, none⟩ = some (.int .i64 1)) (w4.setCell ⟨w.heap.size + 1, 0, none⟩ v)) := fun w4 v hm => by
      obtain ⟨q0, q1, q2, q3, q4, q5, q6⟩ := unhide HS4 w4 hm
      have hba : w.heap.size + 1 ≠ b := by
        have := (unhide HN).1
        have := unhide HSZ
        omega
      have hga : w.heap.size + 1 ≠ g := by
        have := unhide HG
        have := (unhide HN).2.2.2.1
        have := (unhide HN).2.1
        have := unhide HSZ
        omega
      have t : ∀ (x i : Nat) (u : Value), w.heap.size + 1 ≠ x → w4.cell? ⟨x, i, none⟩ = some u → (w4.setCell ⟨w.heap.size + 1, 0, none⟩ v).cell? ⟨x, i, none⟩ = some u := fun x i u hx hu => (World.cell?_setCell_other _ _ _ _ (by first | (simp; done) | (simp; omega))).trans hu
      exact ⟨t _ _ _ hba q0, t _ _ _ hga q1, t _ _ _ hga q2, t _ _ _ hga q3, t _ _ _ hga q4, t _ _ _ hga q5, t _ _ _ hga q6⟩
    go_region_held3 (fun w' => w'.cell? ⟨b, 0, none⟩ = some (.pointer (some ⟨M, 0, none⟩)) ∧ w'.cell? ⟨g, 0, none⟩ = some (.string ⟨#[]⟩) ∧ w'.cell? ⟨g, 1, none⟩ = some (.string ⟨#[]⟩) ∧ w'.cell? ⟨g, 2, none⟩ = some (.int .i64 0) ∧ w'.cell? ⟨g, 3, none⟩ = some (.bool true) ∧ w'.cell? ⟨g, 4, none⟩ = some (.slice (some ⟨rb, ro, none⟩) l'.length rc) ∧ w'.cell? ⟨g, 5, none⟩ = some (.int .i64 1))
      (first | assumption | exact ⟨d12, g0, g1, g2, g3, g4, g5⟩ | exact unhide HS4 _ (unhide K3) | exact unhide HSX _ _ (unhide K3))
      (first | (go_at_call 85; refine (unhide HPut).mono ?_; rintro e w4 ⟨mg, mc, rfl, k10, kg, hg4, fd', k1, k2, k3, k4⟩; have K3 := hide k3; obtain ⟨ac, af⟩ := blk_facts (unhide HA4 _ k3); have a0 := ac 0 _ rfl; have af0 := af 0; have HK := hide (And.intro k10 (And.intro kg (And.intro hg4 (And.intro k1 (And.intro k2 k4))))); clear k10 kg hg4 k1 k2 k3 k4 ac af))
    have hd12 := (unhide HS4 _ (unhide K3)).1
    have HD12 := hide hd12
    clear HPut HSX HS4 HA4 HA2 e0 d12 g0 g1 g2 g3 g4 g5 n2 hd12
    go_wp2_with fail
    obtain ⟨k10, kg, hg4, k1, k2, k4⟩ := unhide HK
    obtain ⟨hMF, hbF, hgF, hAF⟩ := unhide HF
    have hz := unhide HSZ
    obtain ⟨hb1, hM1, hbM, hMlt, hblt⟩ := unhide HN
    have hbd := (unhide HBD).size
    have hbc := (unhide HBC).size
    have hg := unhide HG
    have hs2 : w2.heap.size ≤ mg := hg4
    have hw2 := unhide HW2
    have hcA := World.cell?_setCell_same w4 ⟨w.heap.size + 1, 0, none⟩ (.int .i64 P) a0
    have t : ∀ (x i : Nat) (u : Value), w.heap.size + 1 ≠ x → w4.cell? ⟨x, i, none⟩ = some u → (w4.setCell ⟨w.heap.size + 1, 0, none⟩ (.int .i64 P)).cell? ⟨x, i, none⟩ = some u := fun x i u hx hu => (World.cell?_setCell_other _ _ _ _ (by first | (simp; done) | (simp; omega))).trans hu
    refine leaves_cons (f := 83) (args := #[.pointer (some ⟨b, 0, none⟩), .pointer (some ⟨w.heap.size + 1, 0, none⟩)]) (by simp) (by simp [go_sem]) ?_
    refine (closes_one M mg b (w.heap.size + 1) mc P .returning _ (t _ _ _ (by omega) (unhide HD12)) (World.cell?_setCell_same _ _ _ a0) (t _ _ _ (by omega) k10) (t _ _ _ (by omega) kg)).mono ?_
    rintro e u' w'' ⟨rfl, rfl, rfl⟩
    refine ⟨.tuple #[.int .i64 P, .int .i64 0], ?_, ?_, ?_⟩
    · rw [results_cell_tmp rfl]
      go_simp <;> rfl
    · rw [← unhide HPE]
    · have H0 := unhide HH0
      have hAF' : w.heap.size + 1 ∉ foot p pa pb pk fd' := fun hx => by
        simp only [foot, List.mem_cons, not_or] at hx hAF
        rcases hx with q | q | q | q | q
        · exact hAF.2.1 q
        · exact hAF.2.2.1 q
        · exact hAF.2.2.2.1 q
        · exact hAF.2.2.2.2.1 q
        · rcases k4 _ q with h1 | h1
          · exact hAF.2.2.2.2.2 h1
          · have h2 : w2.heap.size ≤ w.heap.size + 1 := h1
            omega
      refine ⟨foot p pa pb pk fd', ⟨pa, pb, pk, fd', kf, HeapAt.aside2 k1 (fq := [w.heap.size + 1]) (L5.Moves.set w4 (w.heap.size + 1) 0 _ (by simp)) (fun x hx => by simp at hx; rw [hx]; exact hAF') (by simp) (fun j hj v hv y hy hx => ?_), rfl⟩, ?_, ?_⟩
      · have hI : Ints w v (h.kids j) := by have := H0.kid j hj; rw [hv] at this; exact this
        have := hI.lt y hy
        simp at hx
        omega
      · have q1 : Moves (foot p pa pb pk fd) w w2.drew := L5.Moves.of_below _ (unhide HBD).drew
        have q2 := L5.Moves.trans q1 (unhide K3) (fun x hx => by
          rcases List.mem_cons.1 hx with e | e
          · exact .inr (by omega)
          · exact .inl e)
        exact L5.Moves.trans q2 (L5.Moves.set w4 (w.heap.size + 1) 0 (.int .i64 P) (fp := [w.heap.size + 1]) (by simp)) (fun x hx => by simp at hx; exact .inr (by omega))
      · intro x hx
        simp only [foot, List.mem_cons] at hx ⊢
        rcases hx with q | q | q | q | q
        · exact .inl (.inl q)
        · exact .inl (.inr (.inl q))
        · exact .inl (.inr (.inr (.inl q)))
        · exact .inl (.inr (.inr (.inr (.inl q))))
        · rcases k4 _ q with h1 | h1
          · exact .inl (.inr (.inr (.inr (.inr h1))))
          · have h2 : w2.heap.size ≤ x := h1
            exact .inr (by omega)
end Go.Proofs.YtdelobaiicoogaaGreatDoor

/- What Put makes of no items. -/
namespace Go.Proofs.YtdelobaiicoogaaGreatDoor
open Go.ChangeShapes Go.WideShapes Go.ChangeAt Go.RowKit
attribute [local go_sem] Oper.semAt_some

theorem nil_ok {W : World} {key val : ByteArray} :
    ∀ (i : Nat) (x : Pt3), ([((none : Option Addr), 0, []), ((some ⟨W.heap.size, 0, none⟩ : Option Addr), 1, [(key, val)]), ((none : Option Addr), 0, [])] : List Pt3)[i]? = some x →
      ((W.alloc (.cells #[.string key, .string val] 58)).alloc (.cells #[.slice none 0 0, .slice (some ⟨W.heap.size, 0, none⟩) 1 1, .slice none 0 0] 35)).drew.cell? ⟨W.heap.size + 1, i, none⟩ = some (.slice x.1 x.2.2.length x.2.1) ∧
      L6.Row itV ((W.alloc (.cells #[.string key, .string val] 58)).alloc (.cells #[.slice none 0 0, .slice (some ⟨W.heap.size, 0, none⟩) 1 1, .slice none 0 0] 35)).drew x.1 x.2.2 := by
  have b2 := below_alloc (W.alloc (.cells #[.string key, .string val] 58)) (.cells #[.slice none 0 0, .slice (some ⟨W.heap.size, 0, none⟩) 1 1, .slice none 0 0] 35)
  have hn := heap_alloc_new (W.alloc (.cells #[.string key, .string val] 58)) (.cells #[.slice none 0 0, .slice (some ⟨W.heap.size, 0, none⟩) 1 1, .slice none 0 0] 35)
  rw [World.size_alloc] at hn
  intro i x hx
  match i, hx with
  | 0, hx =>
    cases hx
    exact ⟨cell_in hn rfl, .inl rfl⟩
  | 1, hx =>
    cases hx
    refine ⟨cell_in hn rfl, .inr ⟨W.heap.size, 0, rfl, ?_⟩⟩
    intro j y hy
    match j, hy with
    | 0, hy =>
      cases hy
      have hm : ((W.alloc (.cells #[.string key, .string val] 58)).alloc (.cells #[.slice none 0 0, .slice (some ⟨W.heap.size, 0, none⟩) 1 1, .slice none 0 0] 35)).drew.heap[W.heap.size]? = some (.cells #[.string key, .string val] 58 (0, 0)) :=
        (b2.block _ (by rw [World.size_alloc]; omega)).trans (heap_alloc_new W _)
      exact ⟨cell_in hm rfl, cell_in hm rfl⟩
    | j + 1, hy => simp at hy
  | 2, hx =>
    cases hx
    exact ⟨cell_in hn rfl, .inl rfl⟩
  | i + 3, hx => simp at hx
theorem nil_calls {W : World} {key val : ByteArray} :
    Calls Tryz.prog 48 #[.slice (some ⟨W.heap.size + 1, 0, none⟩) 3 3] ((W.alloc (.cells #[.string key, .string val] 58)).alloc (.cells #[.slice none 0 0, .slice (some ⟨W.heap.size, 0, none⟩) 1 1, .slice none 0 0] 35)).drew
      fun e w' => ∃ v, e = .returned v ∧ OwnI W.heap.size w' v [(key, val)] ∧ Below W.heap.size W w' := by
  have b1 := below_alloc W (.cells #[.string key, .string val] 58)
  have b2 := below_then b1 (below_alloc (W.alloc (.cells #[.string key, .string val] 58)) (.cells #[.slice none 0 0, .slice (some ⟨W.heap.size, 0, none⟩) 1 1, .slice none 0 0] 35))
  have b3 := below_then b2 (below_drew _)
  refine (concat_any ([((none : Option Addr), 0, []), ((some ⟨W.heap.size, 0, none⟩ : Option Addr), 1, [(key, val)]), ((none : Option Addr), 0, [])] : List Pt3) (W.heap.size + 1) 3 _ nil_ok (by unfold lens; simp) (by show 3 ≤ 1000; decide)).mono ?_
  rintro e w' ⟨v, rfl, ho, hb⟩
  exact ⟨v, rfl, ho.base b3.size, below_then b3 hb⟩
set_option maxHeartbeats 4000000 in
set_option maxRecDepth 20000 in
theorem edit_put0 (key val : ByteArray) (kc vc : Nat) (w : World)
    (hk : w.cell? ⟨kc, 0, none⟩ = some (.string key)) (hv : w.cell? ⟨vc, 0, none⟩ = some (.string val)) :
    Calls Tryz.prog 46 #[.slice none 0 0, .pointer (some ⟨kc, 0, none⟩), .pointer (some ⟨vc, 0, none⟩)] w fun e w' => ∃ v, e = .returned v ∧ OwnI w.heap.size w' v [(key, val)] ∧ Below w.heap.size w w' := by
  have HPL := hide (placeOf_any [] none 0 key w (.inl rfl) (by simp))
  have hp : placeN [] key = (0, 0) := by
    have := placeN_le [] key
    simp only [List.length_nil] at this
    exact Prod.ext (by omega) (by omega)
  rw [hp] at HPL
  simp only [List.length_nil] at HPL
  clear hp
  go_enter Tryz.func46, Tryz.ntmps46
  go_wp2_with (go_at_call 47; refine (unhide HPL).mono ?_; rintro e w1 ⟨rfl, hb1⟩; have k1 := (hb1.cell (World.block_lt_of_cell? _ _ hk)).trans hk; have v1 := (hb1.cell (World.block_lt_of_cell? _ _ hv)).trans hv; have HB1 := hide hb1; clear hb1)
  clear hk hv
  go_region_held3 (fun w' => w'.cell? ⟨kc, 0, none⟩ = some (.string key) ∧ w'.cell? ⟨vc, 0, none⟩ = some (.string val))
    (first | assumption | exact ⟨k1, v1⟩ | exact ⟨k5, l5⟩ | exact ⟨cell_later _ k1, cell_later _ v1⟩ | exact ⟨cell_later _ (cell_later _ k1), cell_later _ (cell_later _ v1)⟩)
    (first | (go_at_call 48; refine nil_calls.mono ?_; rintro e w5 ⟨v5, rfl, ho5, hb5⟩; have k5 := (hb5.cell (World.block_lt_of_cell? _ _ k1)).trans k1; have l5 := (hb5.cell (World.block_lt_of_cell? _ _ v1)).trans v1; have HX := hide (And.intro ho5 hb5); clear ho5 hb5))
  go_wp2
  go_ret
  exact ⟨_, rfl, (unhide HX).1.base (unhide HB1).size, below_then (unhide HB1) (unhide HX).2⟩
end Go.Proofs.YtdelobaiicoogaaGreatDoor

/- Put of a key that isn't there, into no tree or a tree of one leaf. -/
namespace Go.Proofs.YtdelobaiicoogaaGreatDoor
open Go.ChangeShapes Go.WideShapes Go.ChangeAt Go.RowKit
attribute [local go_sem] Oper.semAt_some
variable {p d : Nat} {h : Hp} {c : Nat} {F : List Nat}

/-- the items of a leaf as a call hands them on -/
def ItsAt (W : World) (its : List L6.It) (ai : Option Addr) (ci : Nat) : Prop := (its = [] ∧ ai = none ∧ ci = 0) ∨ ∃ b off, ai = some ⟨b, off, none⟩ ∧ L6.RowAt itV W b off its ∧ its.length ≤ ci
theorem ItsAt.grow {W W' : World} {its : List L6.It} {ai : Option Addr} {ci : Nat} (h : ItsAt W its ai ci) (hb : Below W.heap.size W W') : ItsAt W' its ai ci := by
  rcases h with h | ⟨b, off, e, hr, hc⟩
  · exact .inl h
  · exact .inr ⟨b, off, e, hr.grow hb, hc⟩
theorem ItsAt.row {W : World} {its : List L6.It} {ai : Option Addr} {ci : Nat} (h : ItsAt W its ai ci) : L6.Row itV W ai its := by
  rcases h with ⟨h, _⟩ | ⟨b, off, e, hr, hc⟩
  · exact .inl h
  · exact .inr ⟨b, off, e, hr⟩
theorem putI_nil (key val : ByteArray) : putI [] key val = [(key, val)] := by
  unfold putI
  simp
/-- what becomes of the items -/
theorem edit_any (its : List L6.It) (ai : Option Addr) (ci : Nat) (key val : ByteArray) (kc vc : Nat) (w : World) (hi : ItsAt w its ai ci) (hl : its.length ≤ 1100)
    (hk : w.cell? ⟨kc, 0, none⟩ = some (.string key)) (hv : w.cell? ⟨vc, 0, none⟩ = some (.string val)) :
    Calls Tryz.prog 46 #[.slice ai its.length ci, .pointer (some ⟨kc, 0, none⟩), .pointer (some ⟨vc, 0, none⟩)] w fun e w' => ∃ v, e = .returned v ∧ OwnI w.heap.size w' v (putI its key val) ∧ Below w.heap.size w w' := by
  rcases hi with ⟨rfl, rfl, rfl⟩ | ⟨b, off, rfl, hr, hc⟩
  · rw [putI_nil]
    exact edit_put0 key val kc vc w hk hv
  · exact edit_put its b off ci key val kc vc w hr hc hl hk hv

theorem below_drewN (w : World) (n : Nat) : Below w.heap.size w (w.drewN n) := by
  obtain ⟨h1, h2, h3, h4⟩ : (w.drewN n).heap = w.heap ∧ (w.drewN n).os = w.os ∧ (w.drewN n).tape = w.tape ∧ (w.drewN n).output = w.output := ⟨rfl, rfl, rfl, rfl⟩
  exact ⟨h2, h3, h4, by rw [h1]; exact Nat.le_refl _, fun k _ => by rw [h1]⟩
set_option maxHeartbeats 4000000 in
set_option maxRecDepth 20000 in
theorem put_go (r : Int) (its : List L6.It) (key val : ByteArray) (w : World) (H : IsHeap w p d h c F) (hI : L5.I64 r) (hheld : heldE h [r] = 0) (hke : key.toList.isEmpty = false) (hks : key.size ≤ 272) (hvs : val.size ≤ 160)
    (hits : its.length ≤ 1000) (hbare : h.bare) (hc : c ≤ 999990) (hfnd : (L6.findK (its.map (fun x => x.1)) key).2 = false) (ht : Tame (putI its key val)) (hok : (putR h ⟨true, putI its key val, []⟩).2.1 = 0)
    (hway : ∀ W, IsHeap W p d h c F → Calls Tryz.prog 42 #[.pointer (some ⟨p, 0, none⟩), .int .i64 r, .string key] W fun e W' => ∃ (ai ak : Option Addr) (ci ck : Nat), e = .returned (.tuple #[.slice none 0 0, .agg #[.bool true, .slice ai its.length ci, .slice ak 0 ck], .int .i64 0]) ∧ L6.Has W' ⟨true, its, []⟩ ai ak ∧ ItsAt W' its ai ci ∧ Below W.heap.size W W')
    (hus : ∀ (ai ak : Option Addr) (ci ck kc vc M B : Nat) (W : World), ItsAt W its ai ci → W.cell? ⟨kc, 0, none⟩ = some (.string key) → W.cell? ⟨vc, 0, none⟩ = some (.string val) → B ≤ W.heap.size → W.cell? ⟨M, 5, none⟩ = some (.slice none 0 0) → W.cell? ⟨M, 6, none⟩ = some (.bool true) → W.cell? ⟨M, 7, none⟩ = some (.slice ai its.length ci) → W.cell? ⟨M, 8, none⟩ = some (.slice ak 0 ck) → W.cell? ⟨M, 9, none⟩ = some (.func (.func 46) #[] #[.pointer (some ⟨kc, 0, none⟩), .pointer (some ⟨vc, 0, none⟩)]) → Calls Tryz.prog 149 #[.pointer (some ⟨M, 0, none⟩)] W fun e w' => PlanSaid W (Kp (putI its key val) B) e w') :
    Calls Tryz.prog 15 #[.pointer (some ⟨p, 0, none⟩), .int .i64 r, .string key, .string val] w fun e w' => e = .returned (.tuple #[.int .i64 (putR h ⟨true, putI its key val, []⟩).1, .int .i64 0]) ∧ HTurned w w' p d (putR h ⟨true, putI its key val, []⟩).2.2 (c + 2) F := by
  have b1 := below_then (below_alloc w (.cells #[.string key] 9)) (below_alloc (w.alloc (.cells #[.string key] 9)) (.cells #[.string val] 9))
  have b2 := below_then b1 (below_alloc ((w.alloc (.cells #[.string key] 9)).alloc (.cells #[.string val] 9)) (.cells #[.int .i64 r] 3))
  have hz1 : ((w.alloc (.cells #[.string key] 9)).alloc (.cells #[.string val] 9)).heap.size = w.heap.size + 2 := by rw [World.size_alloc, World.size_alloc]
  have hz2 : (((w.alloc (.cells #[.string key] 9)).alloc (.cells #[.string val] 9)).alloc (.cells #[.int .i64 r] 3)).heap.size = w.heap.size + 3 := by rw [World.size_alloc, hz1]
  have k0 : (((w.alloc (.cells #[.string key] 9)).alloc (.cells #[.string val] 9)).alloc (.cells #[.int .i64 r] 3)).cell? ⟨w.heap.size, 0, none⟩ = some (.string key) := cell_later _ (cell_later _ (cell_at _ _ _))
  have v0 : (((w.alloc (.cells #[.string key] 9)).alloc (.cells #[.string val] 9)).alloc (.cells #[.int .i64 r] 3)).cell? ⟨w.heap.size + 1, 0, none⟩ = some (.string val) := by
    have q := cell_later (.cells #[.int .i64 r] 3) (cell_at (w.alloc (.cells #[.string key] 9)) (.string val) 9)
    rw [World.size_alloc] at q
    exact q
  have r0 : (((w.alloc (.cells #[.string key] 9)).alloc (.cells #[.string val] 9)).alloc (.cells #[.int .i64 r] 3)).cell? ⟨w.heap.size + 1 + 1, 0, none⟩ = some (.int .i64 r) := by
    have q := cell_at ((w.alloc (.cells #[.string key] 9)).alloc (.cells #[.string val] 9)) (.int .i64 r) 3
    rw [World.size_alloc, World.size_alloc] at q
    exact q
  have HH0 := hide H
  have HH := hide (H.grow b2)
  have HB := hide b2
  have HZ := hide hz2
  have HI := hide hI
  have HE := hide hheld
  have hk2 : ¬ (272 : Int) < (key.size : Int) := by omega
  have hv2 : ¬ (160 : Int) < (val.size : Int) := by omega
  have HA := hide (And.intro hits (And.intro hbare (And.intro hc (And.intro hfnd (And.intro ht hok)))))
  have HW := hide hway
  have HUS := hide hus
  clear b1 b2 hz1 hz2 H hI hheld hits hbare hc hfnd ht hok hway hus hks hvs
  go_enter Tryz.func15, Tryz.ntmps15
  go_wp2_with fail
  refine (theld_one r _ _ (unhide HH) (unhide HI) r0).mono ?_
  rintro e w9 ⟨rfl, hw9⟩
  rw [hw9]
  clear hw9 w9
  rw [unhide HE]
  clear r0
  generalize (((w.alloc (.cells #[.string key] 9)).alloc (.cells #[.string val] 9)).alloc (.cells #[.int .i64 r] 3)) = w1 at *
  go_wp2_with fail
  refine (unhide HW w1 (unhide HH)).mono ?_
  rintro e w2 ⟨ai, ak, ci, ck, rfl, hn, hi, hb⟩
  have hb3 := below_alloc w2 (.cells #[.bool true, .slice ai its.length ci, .slice ak 0 ck] 38)
  have HN := hide (hn.grow hb3)
  have HIA := hide (hi.grow hb3)
  have HB3 := hide (below_then (below_then (unhide HB) hb) hb3)
  have k1 := ((below_then hb hb3).cell (World.block_lt_of_cell? _ _ k0)).trans k0
  have v1 := ((below_then hb hb3).cell (World.block_lt_of_cell? _ _ v0)).trans v0
  have HX := hide (heap_alloc_new w2 (.cells #[.bool true, .slice ai its.length ci, .slice ak 0 ck] 38))
  have k2 := (hb.cell (World.block_lt_of_cell? _ _ k0)).trans k0
  clear hn hi hb hb3 k0 v0 HW
  go_wp2_with fail
  have hf : (L6.findK (L6.keysN ⟨true, its, []⟩) key).2 = false := (unhide HA).2.2.2.1
  refine (L6.find_any ⟨true, its, []⟩ ai ak ci ck key _ (unhide HN) (by have := (unhide HA).1; simp only; omega) (by simp)).mono ?_
  rintro e w5 ⟨rfl, hb⟩
  rw [hf]
  obtain ⟨N, hN⟩ : ∃ x : Int, x = ((L6.findK (L6.keysN ⟨true, its, []⟩) key).1 : Int) := ⟨_, rfl⟩
  rw [← hN]
  clear hN hf
  have HB5 := hide (below_then (unhide HB3) hb)
  have HI5 := hide ((unhide HIA).grow hb)
  have hx := (hb.block w2.heap.size (by rw [World.size_alloc]; omega)).trans (unhide HX)
  obtain ⟨xc, _⟩ := blk_facts hx
  have x0 := xc 0 _ rfl
  have x1 := xc 1 _ rfl
  have x2 := xc 2 _ rfl
  have k5 := (hb.cell (World.block_lt_of_cell? _ _ k1)).trans k1
  have v5 := (hb.cell (World.block_lt_of_cell? _ _ v1)).trans v1
  clear hb hx xc HN HIA HX HB3 k1 v1 k2
  have hmf : ∀ (fn : Fn) (first cap : Array Value) (w : World), (Instr.makeFunc fn first cap).run Tryz.prog w = .ok (.func fn first cap) w := fun _ _ _ _ => rfl
  go_wp2_with fail
  go_quiet (fail)
  go_wp2_with fail
  have hbd : Below w.heap.size w (w5.drewN nq) := below_then (unhide HB5) (below_drewN w5 nq)
  have hbz : Below w5.heap.size w5 (w5.drewN nq) := below_drewN w5 nq
  have hC := changed_leaf r its (putI its key val) ai ak ci ck w.heap.size (w.heap.size + 1) (w5.drewN nq) ((unhide HH0).grow hbd) (unhide HA).2.2.2.2.1.1 (unhide HA).2.1 (unhide HA).2.2.1 (unhide HA).2.2.2.2.2
    (fun M B W hW hB m5 m6 m7 m8 m9 => unhide HUS ai ak ci ck w.heap.size (w.heap.size + 1) M B W (((unhide HI5).grow hbz).grow hW) (((below_then hbz hW).cell (World.block_lt_of_cell? _ _ k5)).trans k5) (((below_then hbz hW).cell (World.block_lt_of_cell? _ _ v5)).trans v5) hB m5 m6 m7 m8 m9)
  have HC := hide hC
  have HBD := hide hbd
  clear hC hbd hbz
  refine (unhide HC).mono ?_
  rintro e w6 ⟨rfl, ht⟩
  have HT := hide ht
  clear ht HC
  go_wp2
  go_ret2
  exact ⟨rfl, HTurned.then (L5.Moves.of_below _ (unhide HBD)) (fun x hx => .inl hx) (unhide HT)⟩
end Go.Proofs.YtdelobaiicoogaaGreatDoor
