/- Texts that the proof needs, one behind the other. -/
import Derived.Test.YtdelobaiicoogaaGreatDoorMbe
import Derived.Test.YtdelobaiicoogaaGreatDoorMbc
/- put: a planned leaf; what is known of kids stays just as it was. -/
namespace Go.Proofs.YtdelobaiicoogaaGreatDoor
open Go.ChangeShapes Go.WideShapes Go.ChangeAt Go.RowKit
attribute [local go_sem] Oper.semAt_some
variable {w w' : World} {p d : Nat} {h : Hp} {c : Nat} {F : List Nat}

theorem HeapAt.aside2 {pa pb pk : Nat} {fd : List Nat} {kf : Nat → Option Value} {fq : List Nat} (H : HeapAt w p d h c pa pb pk fd kf) (hm : Moves fq w w') (hd : ∀ x ∈ fq, x ∉ foot p pa pb pk fd) (h0 : 0 ∉ fq) (hr : ∀ j, j < 4096 → ∀ v, kf j = some v → ∀ g, v.ownBlock = some g → g ∉ fq) : HeapAt w' p d h c pa pb pk fd kf := by
  refine H.keep hm hd h0 (fun j hj => (H.kid j hj).same (fun v hv g hg => ?_))
  have hI : Ints w v (h.kids j) := by have := H.kid j hj; rw [hv] at this; exact this
  exact hm.block g (hI.lt g hg) (hr j hj v hv g hg)
theorem HeapAt.aside {pa pb pk : Nat} {fd : List Nat} {kf : Nat → Option Value} {fq : List Nat} (H : HeapAt w p d h c pa pb pk fd kf) (hm : Moves fq w w') (hd : ∀ x ∈ fq, x ∉ foot p pa pb pk fd) (h0 : 0 ∉ fq) (hr : ∀ x ∈ fq, x < w.heap.size → ¬ Kd w x 3) : HeapAt w' p d h c pa pb pk fd kf := by
  refine H.aside2 hm hd h0 (fun j hj v hv g hg hx => ?_)
  have hI : Ints w v (h.kids j) := by have := H.kid j hj; rw [hv] at this; exact this
  exact hr g hx (hI.lt g hg) (hI.kd hg)

set_option maxHeartbeats 4000000 in
set_option maxRecDepth 20000 in
theorem put_leafS {pa pb pk : Nat} {fd : List Nat} {kf : Nat → Option Value} (M : Nat) (key : ByteArray) (l : List L6.It) (a : Option Addr) (cap : Nat) (w : World) (H : HeapAt w p d h c pa pb pk fd kf) (hM : Kd w M 184) (m0 : w.cell? ⟨M, 0, none⟩ = some (.pointer (some ⟨p, 0, none⟩)))
    (m10 : w.cell? ⟨M, 10, none⟩ = some (.slice none 0 0)) (hMF : M ∉ foot p pa pb pk fd) (hr : RowD w a l) (hl : l.length ≤ 1100) (hbare : h.bare) (hc : c ≤ 999990) (hok : (putR h ⟨true, l, []⟩).2.1 = 0) :
    Calls Tryz.prog 85 #[.pointer (some ⟨M, 0, none⟩), .agg #[.string key, .string ⟨#[]⟩, .int .i64 0, .bool true, .slice a l.length cap, .int .i64 1]] w fun e w' => ∃ g cp, e = .returned (.tuple #[.int .i64 (putR h ⟨true, l, []⟩).1, .int .i64 0]) ∧ w'.cell? ⟨M, 10, none⟩ = some (.slice (some ⟨g, 0, none⟩) 1 cp) ∧ w'.cell? ⟨g, 0, none⟩ = some (.int .i64 (putR h ⟨true, l, []⟩).1) ∧ w.heap.size ≤ g ∧
      ∃ fd', HeapAt w' p d (putR h ⟨true, l, []⟩).2.2 (c + 2) pa pb pk fd' kf ∧ M ∉ foot p pa pb pk fd' ∧ Moves (M :: foot p pa pb pk fd) w w' ∧ ∀ x ∈ fd', x ∈ fd ∨ w.heap.size ≤ x := by
  have b1 := below_alloc w (.cells #[.string key, .string ⟨#[]⟩, .int .i64 0, .bool true, .slice a l.length cap, .int .i64 1] 192)
  have hn1 := heap_alloc_new w (.cells #[.string key, .string ⟨#[]⟩, .int .i64 0, .bool true, .slice a l.length cap, .int .i64 1] 192)
  obtain ⟨hc1, _⟩ := blk_facts hn1
  have e3 := hc1 3 _ rfl
  have e4 := hc1 4 _ rfl
  have HS := hide (shape_leaf l a cap (w.alloc (.cells #[.string key, .string ⟨#[]⟩, .int .i64 0, .bool true, .slice a l.length cap, .int .i64 1] 192)) (hr.grow b1) hl)
  have HB := hide b1
  have HH := hide H
  have HM0 := hide m0
  have HM10 := hide m10
  have HK := hide hM
  have HMF := hide hMF
  have HL := hide hl
  have HBR := hide hbare
  have HC := hide hc
  have HOK := hide hok
  clear b1 hn1 hc1 H m0 m10 hM hMF hr hl hbare hc hok
  go_enter Tryz.func85, Tryz.ntmps85
  go_wp2_with fail
  generalize w.alloc (.cells #[.string key, .string ⟨#[]⟩, .int .i64 0, .bool true, .slice a l.length cap, .int .i64 1] 192) = w1 at *
  refine (unhide HS).mono ?_
  rintro e w2 ⟨ai, ci, rfl, ho, hb⟩
  have b2 := below_alloc w2 (.cells #[.bool true, .slice ai l.length ci, .slice none 0 0] 38)
  have hb2 := below_then (below_then (unhide HB) hb) b2
  have hr2 : L6.Row itV (w2.alloc (.cells #[.bool true, .slice ai l.length ci, .slice none 0 0] 38)) ai l := ho.row.grow b2
  have HB2 := hide hb2
  have HR2 := hide hr2
  have HX := hide (heap_alloc_new w2 (.cells #[.bool true, .slice ai l.length ci, .slice none 0 0] 38))
  obtain ⟨B, hB⟩ : ∃ b, b = w2.heap.size := ⟨_, rfl⟩
  have HBl : Hid (w.heap.size ≤ B) := by show _ ≤ _; rw [hB]; exact Nat.le_trans (unhide HB).size hb.size
  clear b2 hb hb2 hr2 ho
  go_wp2_with fail
  rw [← hB] at HX ⊢
  have HBE := hide hB
  clear hB
  generalize w2.alloc (.cells #[.bool true, .slice ai l.length ci, .slice none 0 0] 38) = w3 at *
  refine wp_loop_rounds 1 ?_
  obtain ⟨hc1, _⟩ := blk_facts (unhide HX)
  have x0 := hc1 0 _ rfl
  have x1 := hc1 1 _ rfl
  have x2 := hc1 2 _ rfl
  clear hc1
  rw [rounds_succ]
  go_wp2_with fail
  have m0 : w3.drew.cell? ⟨M, 0, none⟩ = some (.pointer (some ⟨p, 0, none⟩)) := ((unhide HB2).cell (World.block_lt_of_cell? w _ (unhide HM0))).trans (unhide HM0)
  have y0 : w3.drew.cell? ⟨B, 0, none⟩ = some (.bool true) := x0
  have y1 : w3.drew.cell? ⟨B, 1, none⟩ = some (.slice ai l.length ci) := x1
  have y2 : w3.drew.cell? ⟨B, 2, none⟩ = some (.slice none 0 0) := x2
  have HP := hide (hput_bareS (p := p) (d := d) (h := h) (c := c) ⟨true, l, []⟩ rfl ai none ci 0 w3.drew ((unhide HH).grow (unhide HB2).drew) ⟨(unhide HR2).grow (below_drew _), Or.inl rfl⟩ (unhide HL) (by simp) (unhide HBR) (unhide HC) (unhide HOK))
  have HBF : Hid (B ∉ foot p pa pb pk fd) := fun hx => by have := (unhide HH).lt B hx; have := unhide HBl; omega
  go_region_held3 (fun w' => w'.cell? ⟨M, 0, none⟩ = some (.pointer (some ⟨p, 0, none⟩)) ∧ w'.cell? ⟨B, 0, none⟩ = some (.bool true) ∧ w'.cell? ⟨B, 1, none⟩ = some (.slice ai l.length ci) ∧ w'.cell? ⟨B, 2, none⟩ = some (.slice none 0 0))
    (first | assumption | exact ⟨m0, y0, y1, y2⟩ | exact unhide HS4)
    (first | (go_at_call 10; refine (unhide HP).mono ?_; rintro e w4 ⟨rfl, ht⟩; have HS4 := hide (And.intro (cell_moves ht.choose_spec.2.1 m0 (unhide HMF)) (And.intro (cell_moves ht.choose_spec.2.1 y0 (unhide HBF)) (And.intro (cell_moves ht.choose_spec.2.1 y1 (unhide HBF)) (cell_moves ht.choose_spec.2.1 y2 (unhide HBF))))); have HT4 := hide ht; clear ht))
  clear HP HS4 m0 y0 y1 y2 x0 x1 x2 HX HR2 e3 e4 HS HBE
  obtain ⟨P, hP⟩ : ∃ x, x = (putR h ⟨true, l, []⟩).1 := ⟨_, rfl⟩
  rw [← hP]
  have HPE := hide hP
  clear hP
  obtain ⟨F', k1, k2, k3⟩ := unhide HT4
  have hMlt : M < w.heap.size := World.block_lt_of_cell? w _ (unhide HM0)
  have hbM : w4.heap[M]? = w.heap[M]? := (k2.block M (Nat.lt_of_lt_of_le hMlt (unhide HB2).drew.size) (unhide HMF)).trans ((unhide HB2).drew.block M hMlt)
  have m10 : w4.cell? ⟨M, 10, none⟩ = some (.slice none 0 0) := (World.cell?_of_block hbM).trans (unhide HM10)
  have hMlt4 : M < w4.heap.size := World.block_lt_of_cell? w4 _ m10
  have hF4 : Hid (∀ W : World, W.heap[M]? = w4.heap[M]? → W.frozen? ⟨M, 10, none⟩ = false) := fun W hW => by
    obtain ⟨cs, hcs⟩ := unhide HK
    simp [World.frozen?, hW, hbM, hcs]
  have HK1 := hide k1
  have HK2 := hide k2
  have HK3 := hide k3
  have HBM := hide hbM
  have HML := hide hMlt4
  clear k1 k2 k3 hbM hMlt hMlt4
  go_wp2_with (first
    | (at_builtin; refine L3.app_gen (wr := w4) (v := .slice none 0 0) (n := 0) (xs := []) (news := [.int .i64 P]) (B := 0) Tryz.underlying71 info3 rfl (by decide) rfl _ _ rfl rfl rfl (World.ownsRow_nil w4 0 3 1) (Nat.zero_le _) rfl (by intro u hu; simp at hu; subst hu; rfl) (by omega) (by omega) ?_; intro a5 cap5 w5 hown5 hg5 hloc; have hm5 : L5.Moves [] w4 w5 := L5.Moves.of_grown hg5 (fun k hk => by cases hk); have hb5 := hm5.block M (unhide HML) List.not_mem_nil; have z10 := (World.cell?_of_block (a := ⟨M, 10, none⟩) hb5).trans m10; have zf := unhide hF4 w5 hb5; have HY := hide (And.intro hown5 (And.intro hm5 hloc)); clear hown5 hg5 hloc hm5 hb5)
    | go_in)
  go_ret2
  obtain ⟨hown, hm5, hloc⟩ := unhide HY
  have hI : Ints w5 (.slice a5 1 cap5) [P] := hown
  obtain ⟨g, rfl, hgc⟩ := Ints.at (l := [P]) hI 0 (by simp)
  have hg4 : w4.heap.size ≤ g := by
    rcases hloc with e | ⟨g', e, hg'⟩
    · simp [Value.ownBlock] at e
    · simp [Value.ownBlock] at e
      omega
  have hMlt : M < w.heap.size := World.block_lt_of_cell? w _ (unhide HM0)
  have hsz := (unhide HB2).drew.size
  have hgM : g ≠ M := by have := unhide HML; omega
  have hMF' : M ∉ foot p pa pb pk F' := fun hx => by
    have h0 := unhide HMF
    simp only [foot, List.mem_cons, not_or] at hx h0
    rcases hx with q | q | q | q | q
    · exact h0.1 q
    · exact h0.2.1 q
    · exact h0.2.2.1 q
    · exact h0.2.2.2.1 q
    · rcases unhide HK3 M q with h1 | h1
      · exact h0.2.2.2.2 h1
      · omega
  have hM0 : M ≠ 0 := fun e => by
    have h1 := (unhide HH).tab 0 (by omega)
    have h2 := unhide HM0
    rw [e] at h2
    simp [h2] at h1
  refine ⟨g, cap5, by rw [← unhide HPE]; rfl, ?_, ?_, ?_, F', ?_, hMF', ?_, ?_⟩
  · exact World.cell?_setCell_same _ _ _ z10
  · rw [← unhide HPE]
    exact (World.cell?_setCell_other _ _ _ _ (by simp)).trans hgc
  · have := (unhide HK2).size
    omega
  · refine HeapAt.aside ((unhide HK1).grow hm5.to_below) (fq := [M]) (L5.Moves.set w5 M 10 _ (by simp)) (fun y hy => by simp at hy; rw [hy]; exact hMF') (by simp; omega) (fun y hy hyl h3 => ?_)
    simp at hy
    subst hy
    obtain ⟨cs, hcs⟩ := unhide HK
    obtain ⟨cs', hcs'⟩ := h3
    rw [hm5.block _ (unhide HML) List.not_mem_nil, unhide HBM, hcs] at hcs'
    injection hcs' with e
    injection e with _ e
    exact absurd e (by decide)
  · have q1 : Moves (M :: foot p pa pb pk fd) w w3.drew := L5.Moves.of_below _ (unhide HB2).drew
    have q2 : Moves (M :: foot p pa pb pk fd) w3.drew w4 := L5.Moves.mono (unhide HK2) (fun x hx => .inl (List.mem_cons_of_mem _ hx))
    have q3 : Moves (M :: foot p pa pb pk fd) w4 w5 := L5.Moves.mono hm5 (fun x hx => by cases hx)
    exact L5.Moves.then (L5.Moves.then (L5.Moves.then q1 q2) q3) (L5.Moves.set w5 M 10 _ (by simp))
  · intro x hx
    rcases unhide HK3 x hx with h1 | h1
    · exact .inl h1
    · exact .inr (by omega)
end Go.Proofs.YtdelobaiicoogaaGreatDoor

/- changed: a tree of one leaf is made of another one, or of none. -/
namespace Go.Proofs.YtdelobaiicoogaaGreatDoor
open Go.ChangeShapes Go.WideShapes Go.ChangeAt Go.RowKit
attribute [local go_sem] Oper.semAt_some
variable {p d : Nat} {h : Hp} {c : Nat} {F : List Nat}

theorem RowD.set {W : World} {a : Option Addr} {l : List L6.It} {x : Nat} (h : RowD W a l) (hx : ∀ b off, a = some ⟨b, off, none⟩ → x ≠ b) (j : Nat) (v : Value) : RowD (W.setCell ⟨x, j, none⟩ v) a l := by
  rcases h with h | ⟨b, off, e, h⟩
  · exact .inl h
  · have hne := hx b off e
    refine .inr ⟨b, off, e, fun k y hy => ?_⟩
    obtain ⟨q0, q1, q2, q3, q4, q5⟩ := h k y hy
    have g : ∀ i u, W.cell? ⟨b, i, none⟩ = some u → (W.setCell ⟨x, j, none⟩ v).cell? ⟨b, i, none⟩ = some u := fun i u hu => (World.cell?_setCell_other _ _ _ _ (by first | (simp; done) | (simp; omega))).trans hu
    exact ⟨g _ _ q0, g _ _ q1, g _ _ q2, g _ _ q3, g _ _ q4, g _ _ q5⟩
/-- a planned leaf whose row is this new -/
def Kp (l : List L6.It) (B : Nat) (g : Nat) (W : World) : Prop := ∃ b off cap, W.heap[g]? = some (planE ⟨#[]⟩ (some ⟨b, off, none⟩) l.length cap) ∧ RowD W (some ⟨b, off, none⟩) l ∧ B ≤ b
theorem Kp.grow {l : List L6.It} {B : Nat} : ∀ g W W', Kp l B g W → Below W.heap.size W W' → Kp l B g W' := by
  rintro g W W' ⟨b, off, cap, h1, h2, h3⟩ hb
  exact ⟨b, off, cap, (hb.block g (Array.getElem?_eq_some_iff.1 h1).1).trans h1, h2.grow hb, h3⟩
theorem Kp.mono {l : List L6.It} {B B' g : Nat} {W : World} (h : Kp l B g W) (hB : B' ≤ B) : Kp l B' g W := by
  obtain ⟨b, off, cap, h1, h2, h3⟩ := h
  exact ⟨b, off, cap, h1, h2, Nat.le_trans hB h3⟩
theorem Kp.set {l : List L6.It} {B g x : Nat} {W : World} (h : Kp l B g W) (hg : x ≠ g) (hB : x < B) (j : Nat) (v : Value) : Kp l B g (W.setCell ⟨x, j, none⟩ v) := by
  obtain ⟨b, off, cap, h1, h2, h3⟩ := h
  refine ⟨b, off, cap, (Below.heap_setCell _ _ _ g (fun e => hg e.symm)).trans h1, h2.set (fun b' off' e => ?_) j v, h3⟩
  injection e with e
  injection e with e1 e2 e3
  omega

set_option maxHeartbeats 8000000 in
set_option maxRecDepth 20000 in
theorem changed_leaf (r : Int) (its l' : List L6.It) (ai ak : Option Addr) (ci ck kc vc : Nat) (w : World) (H : IsHeap w p d h c F) (hl : l'.length ≤ 1100) (hbare : h.bare) (hc : c ≤ 999990) (hok : (putR h ⟨true, l', []⟩).2.1 = 0)
    (hUS : ∀ (M B : Nat) (W : World), Below w.heap.size w W → B ≤ W.heap.size → W.cell? ⟨M, 5, none⟩ = some (.slice none 0 0) → W.cell? ⟨M, 6, none⟩ = some (.bool true) → W.cell? ⟨M, 7, none⟩ = some (.slice ai its.length ci) → W.cell? ⟨M, 8, none⟩ = some (.slice ak 0 ck) → W.cell? ⟨M, 9, none⟩ = some (.func (.func 46) #[] #[.pointer (some ⟨kc, 0, none⟩), .pointer (some ⟨vc, 0, none⟩)]) → Calls Tryz.prog 149 #[.pointer (some ⟨M, 0, none⟩)] W fun e w' => PlanSaid W (Kp l' B) e w') :
    Calls Tryz.prog 45 #[.pointer (some ⟨p, 0, none⟩), .int .i64 r, .slice none 0 0, .agg #[.bool true, .slice ai its.length ci, .slice ak 0 ck], .func (.func 46) #[] #[.pointer (some ⟨kc, 0, none⟩), .pointer (some ⟨vc, 0, none⟩)]] w fun e w' => e = .returned (.tuple #[.int .i64 (putR h ⟨true, l', []⟩).1, .int .i64 0]) ∧ HTurned w w' p d (putR h ⟨true, l', []⟩).2.2 (c + 2) F := by
  have hx := heap_alloc_new w (.cells #[.bool true, .slice ai its.length ci, .slice ak 0 ck] 38)
  obtain ⟨hcx, _⟩ := blk_facts hx
  have x0 := hcx 0 _ rfl
  have x1 := hcx 1 _ rfl
  have x2 := hcx 2 _ rfl
  clear hcx hx
  have HP := hide (fun W : World => pressOf_any p W)
  have hsz := World.size_alloc w (.cells #[.bool true, .slice ai its.length ci, .slice ak 0 ck] 38)
  have hfd : ∀ (v1 v2 v3 : Value) (w : World), (Instr.field 187 (.agg #[v1, v2, v3]) 0).run Tryz.prog w = .ok v1 w := fun _ _ _ _ => rfl
  have hmf : ∀ (fn : Fn) (first cap : Array Value) (w : World), (Instr.makeFunc fn first cap).run Tryz.prog w = .ok (.func fn first cap) w := fun _ _ _ _ => rfl
  have HUS := hide hUS
  have HH := hide H
  have HA := hide (And.intro hl (And.intro hbare (And.intro hc hok)))
  clear hUS H hl hbare hc hok
  go_enter_defers Tryz.func45, Tryz.ntmps45
  go_wp2_with fail
  have b2 := below_alloc (w.alloc (.cells #[.bool true, .slice ai its.length ci, .slice ak 0 ck] 38)) (.cells #[.int .i64 0] 3)
  have hlt : w.heap.size < (w.alloc (.cells #[.bool true, .slice ai its.length ci, .slice ak 0 ck] 38)).heap.size := by rw [World.size_alloc]; omega
  have y0 : ((w.alloc (.cells #[.bool true, .slice ai its.length ci, .slice ak 0 ck] 38)).alloc (.cells #[.int .i64 0] 3)).drew.cell? ⟨w.heap.size, 0, none⟩ = some (.bool true) := (b2.cell (p := ⟨w.heap.size, 0, none⟩) hlt).trans x0
  have y1 : ((w.alloc (.cells #[.bool true, .slice ai its.length ci, .slice ak 0 ck] 38)).alloc (.cells #[.int .i64 0] 3)).drew.cell? ⟨w.heap.size, 1, none⟩ = some (.slice ai its.length ci) := (b2.cell (p := ⟨w.heap.size, 1, none⟩) hlt).trans x1
  have y2 : ((w.alloc (.cells #[.bool true, .slice ai its.length ci, .slice ak 0 ck] 38)).alloc (.cells #[.int .i64 0] 3)).drew.cell? ⟨w.heap.size, 2, none⟩ = some (.slice ak 0 ck) := (b2.cell (p := ⟨w.heap.size, 2, none⟩) hlt).trans x2
  have HA0 : Hid (((w.alloc (.cells #[.bool true, .slice ai its.length ci, .slice ak 0 ck] 38)).alloc (.cells #[.int .i64 0] 3)).heap[w.heap.size + 1]? = some (.cells #[.int .i64 0] 3 (0, 0))) := by
    have hq := heap_alloc_new (w.alloc (.cells #[.bool true, .slice ai its.length ci, .slice ak 0 ck] 38)) (.cells #[.int .i64 0] 3)
    rw [World.size_alloc] at hq
    exact hq
  have HBW : Hid (Below w.heap.size w ((w.alloc (.cells #[.bool true, .slice ai its.length ci, .slice ak 0 ck] 38)).alloc (.cells #[.int .i64 0] 3))) := below_then (below_alloc w _) b2
  clear x0 x1 x2 hlt
  have hs2 := World.size_alloc (w.alloc (.cells #[.bool true, .slice ai its.length ci, .slice ak 0 ck] 38)) (.cells #[.int .i64 0] 3)
  have HSZ : Hid (((w.alloc (.cells #[.bool true, .slice ai its.length ci, .slice ak 0 ck] 38)).alloc (.cells #[.int .i64 0] 3)).heap.size = w.heap.size + 2) := by show _ = _; omega
  clear hsz hs2 b2
  generalize ((w.alloc (.cells #[.bool true, .slice ai its.length ci, .slice ak 0 ck] 38)).alloc (.cells #[.int .i64 0] 3)) = w1 at *
  go_cut [12] from 12 to 21 (fun s12 wc => ∃ b M m1 m2, s12 = .pointer (some ⟨b, 0, none⟩) ∧ wc.cell? ⟨b, 0, none⟩ = some (.pointer (some ⟨M, 0, none⟩)) ∧ wc.heap[M]? = some (.cells #[.pointer (some ⟨p, 0, none⟩), .map (some m1), .int .i64 0, .map (some m2), .int .i64 r, .slice none 0 0, .bool true, .slice ai its.length ci, .slice ak 0 ck, .func (.func 46) #[] #[.pointer (some ⟨kc, 0, none⟩), .pointer (some ⟨vc, 0, none⟩)], .slice none 0 0] 184 (0, 0)) ∧ w1.heap.size ≤ b ∧ w1.heap.size ≤ M ∧ b ≠ M ∧ Below w1.heap.size w1 wc)
  case first =>
    have KP : Hid (∀ wa wb, (fun w' => Below w1.heap.size w1 w' ∧ w'.cell? ⟨w.heap.size, 0, none⟩ = some (.bool true) ∧ w'.cell? ⟨w.heap.size, 1, none⟩ = some (.slice ai its.length ci) ∧ w'.cell? ⟨w.heap.size, 2, none⟩ = some (.slice ak 0 ck)) wa → Below wa.heap.size wa wb → (fun w' => Below w1.heap.size w1 w' ∧ w'.cell? ⟨w.heap.size, 0, none⟩ = some (.bool true) ∧ w'.cell? ⟨w.heap.size, 1, none⟩ = some (.slice ai its.length ci) ∧ w'.cell? ⟨w.heap.size, 2, none⟩ = some (.slice ak 0 ck)) wb) := fun wa wb h hb =>
      ⟨below_then h.1 hb, (hb.cell (World.block_lt_of_cell? wa _ h.2.1)).trans h.2.1, (hb.cell (World.block_lt_of_cell? wa _ h.2.2.1)).trans h.2.2.1, (hb.cell (World.block_lt_of_cell? wa _ h.2.2.2)).trans h.2.2.2⟩
    have H0 : Hid ((fun w' => Below w1.heap.size w1 w' ∧ w'.cell? ⟨w.heap.size, 0, none⟩ = some (.bool true) ∧ w'.cell? ⟨w.heap.size, 1, none⟩ = some (.slice ai its.length ci) ∧ w'.cell? ⟨w.heap.size, 2, none⟩ = some (.slice ak 0 ck)) w1.drew) := ⟨(Below.refl _ _).drew, y0, y1, y2⟩
    have K1 : Hid (∀ wa o, (fun w' => Below w1.heap.size w1 w' ∧ w'.cell? ⟨w.heap.size, 0, none⟩ = some (.bool true) ∧ w'.cell? ⟨w.heap.size, 1, none⟩ = some (.slice ai its.length ci) ∧ w'.cell? ⟨w.heap.size, 2, none⟩ = some (.slice ak 0 ck)) wa → (fun w' => Below w1.heap.size w1 w' ∧ w'.cell? ⟨w.heap.size, 0, none⟩ = some (.bool true) ∧ w'.cell? ⟨w.heap.size, 1, none⟩ = some (.slice ai its.length ci) ∧ w'.cell? ⟨w.heap.size, 2, none⟩ = some (.slice ak 0 ck)) (wa.alloc o)) := fun wa o h => unhide KP _ _ h (below_alloc wa o)
    have KS : Hid (∀ wa b v, (fun w' => Below w1.heap.size w1 w' ∧ w'.cell? ⟨w.heap.size, 0, none⟩ = some (.bool true) ∧ w'.cell? ⟨w.heap.size, 1, none⟩ = some (.slice ai its.length ci) ∧ w'.cell? ⟨w.heap.size, 2, none⟩ = some (.slice ak 0 ck)) wa → w1.heap.size ≤ b → (fun w' => Below w1.heap.size w1 w' ∧ w'.cell? ⟨w.heap.size, 0, none⟩ = some (.bool true) ∧ w'.cell? ⟨w.heap.size, 1, none⟩ = some (.slice ai its.length ci) ∧ w'.cell? ⟨w.heap.size, 2, none⟩ = some (.slice ak 0 ck)) (wa.setCell ⟨b, 0, none⟩ v)) := fun wa b v h hb => by
      have hlt : w.heap.size < w1.heap.size := by have := unhide HSZ; omega
      refine ⟨L6.below_store h.1 b 0 v hb, ?_, ?_, ?_⟩
      · exact (World.cell?_setCell_other _ _ _ _ (by first | (simp; done) | (simp; omega))).trans h.2.1
      · exact (World.cell?_setCell_other _ _ _ _ (by simp)).trans h.2.2.1
      · exact (World.cell?_setCell_other _ _ _ _ (by simp)).trans h.2.2.2
    go_region_held3 (fun w' => Below w1.heap.size w1 w' ∧ w'.cell? ⟨w.heap.size, 0, none⟩ = some (.bool true) ∧ w'.cell? ⟨w.heap.size, 1, none⟩ = some (.slice ai its.length ci) ∧ w'.cell? ⟨w.heap.size, 2, none⟩ = some (.slice ak 0 ck))
      (first | assumption | (exact unhide H0) | (exact unhide K1 _ _ (by assumption)) | (exact unhide K1 _ _ (unhide H0)) | (exact unhide K1 _ _ (unhide K1 _ _ (by assumption))) | (exact unhide KS _ _ _ (by first | assumption | exact unhide K1 _ _ (by assumption) | exact unhide K1 _ _ (unhide K1 _ _ (by assumption))) (by first | exact Nat.le_refl _ | (have := H2.1.size; simp only [World.size_alloc]; omega))))
      (first | (go_at_call 81; refine (unhide HP _).mono ?_; rintro e w2 ⟨m1, m2, rfl, hm1, hm2, hb⟩; have H2 := unhide KP _ _ (by first | assumption | exact unhide H0 | exact unhide K1 _ _ (unhide H0)) hb; have HB2 := hide (And.intro hm1 (And.intro hm2 hb)); (try (have zb : w2.heap[w1.heap.size]? = some (.cells #[.pointer none] 178 (0, 0)) := (hb.block w1.heap.size (by simp)).trans (heap_alloc_new w1.drew (.cells #[.pointer none] 178)); obtain ⟨zc, zf⟩ := blk_facts zb; have z0 := zc 0 _ rfl; have z0' := ((below_alloc w2 (.cells #[.pointer (some ⟨p, 0, none⟩), .map (some m1), .int .i64 0, .map (some m2), .int .i64 r, .slice none 0 0, .bool true, .slice ai its.length ci, .slice ak 0 ck, .func (.func 46) #[] #[.pointer (some ⟨kc, 0, none⟩), .pointer (some ⟨vc, 0, none⟩)], .slice none 0 0] 184)).cell (World.block_lt_of_cell? w2 _ z0)).trans z0; have zf' : (w2.alloc (.cells #[.pointer (some ⟨p, 0, none⟩), .map (some m1), .int .i64 0, .map (some m2), .int .i64 r, .slice none 0 0, .bool true, .slice ai its.length ci, .slice ak 0 ck, .func (.func 46) #[] #[.pointer (some ⟨kc, 0, none⟩), .pointer (some ⟨vc, 0, none⟩)], .slice none 0 0] 184)).frozen? ⟨w1.heap.size, 0, none⟩ = false := (blk_facts (((below_alloc w2 (.cells #[.pointer (some ⟨p, 0, none⟩), .map (some m1), .int .i64 0, .map (some m2), .int .i64 r, .slice none 0 0, .bool true, .slice ai its.length ci, .slice ak 0 ck, .func (.func 46) #[] #[.pointer (some ⟨kc, 0, none⟩), .pointer (some ⟨vc, 0, none⟩)], .slice none 0 0] 184)).block w1.heap.size (World.block_lt_of_cell? w2 _ z0)).trans zb)).2 0; clear zc)); clear hm1 hm2 hb))
    all_goals
      go_wp2_with fail
      go_meet
      rename_i hHeld
      have q1 := H2.1.size
      have q2 : ∀ x, x = w1.heap.size → w1.heap.size < w2.heap.size → x ≠ w2.heap.size := fun x e h => by omega
      first
        | (refine ⟨_, w2.heap.size, m1, m2, rfl, ?_, ?_, ?_, ?_, ?_, hHeld.1⟩
           · first
               | (exact World.cell?_setCell_same _ _ _ z0')
               | (simp; done)
           · first
               | (exact ((below_alloc _ _).block w2.heap.size (by rw [World.size_alloc]; omega)).trans (heap_alloc_new w2 _))
               | (exact (Below.heap_setCell _ _ _ _ (by have h9 : w1.heap.size < w2.heap.size := World.block_lt_of_cell? w2 _ z0; show w2.heap.size ≠ w1.heap.size; omega)).trans (heap_alloc_new w2 _))
           · omega
           · omega
           · first | omega | (have h9 : w1.heap.size < w2.heap.size := World.block_lt_of_cell? w2 _ z0; omega))
        | (refine ⟨_, w2.heap.size + 1, m1, m2, rfl, ?_, ?_, ?_, ?_, ?_, hHeld.1⟩
           · exact (blk_facts (((below_alloc _ _).block w2.heap.size (by rw [World.size_alloc]; omega)).trans (heap_alloc_new w2 _))).1 0 _ rfl
           · have hq := heap_alloc_new (w2.alloc (.cells #[.pointer (some ⟨w2.heap.size + 1, 0, none⟩)] 178)) (.cells #[.pointer (some ⟨p, 0, none⟩), .map (some m1), .int .i64 0, .map (some m2), .int .i64 r, .slice none 0 0, .bool true, .slice ai its.length ci, .slice ak 0 ck, .func (.func 46) #[] #[.pointer (some ⟨kc, 0, none⟩), .pointer (some ⟨vc, 0, none⟩)], .slice none 0 0] 184)
             rw [World.size_alloc] at hq
             exact hq
           · omega
           · omega
           · omega)
  case rest =>
    obtain ⟨b, M, m1, m2, rfl, cb, hM, hb1, hM1, hbM, hbel⟩ := hcut
    clear y0 y1 y2 HP
    have hz := unhide HSZ
    have hMlt : M < wc.heap.size := (Array.getElem?_eq_some_iff.1 hM).1
    have hblt : b < wc.heap.size := World.block_lt_of_cell? wc _ cb
    have hBC := below_then (unhide HBW) hbel
    have cM : ∀ W2 : World, Below wc.heap.size wc W2 → W2.heap[M]? = some (.cells #[.pointer (some ⟨p, 0, none⟩), .map (some m1), .int .i64 0, .map (some m2), .int .i64 r, .slice none 0 0, .bool true, .slice ai its.length ci, .slice ak 0 ck, .func (.func 46) #[] #[.pointer (some ⟨kc, 0, none⟩), .pointer (some ⟨vc, 0, none⟩)], .slice none 0 0] 184 (0, 0)) := fun W2 hb => (hb.block M hMlt).trans hM
    have HBest := hide (best_any M (Kp l' (wc.heap.size + 1)) Kp.grow wc ((blk_facts hM).1 5 _ rfl) (fun W hW hlt => (simple_any M (Kp l' (W.heap.size + 1)) W ((blk_facts (cM W hW)).1 5 _ rfl)
      (fun W2 hW2 hlt2 => unhide HUS M (W.heap.size + 1) W2 (below_then hBC (below_then hW hW2)) (by omega) ((blk_facts (cM W2 (below_then hW hW2))).1 5 _ rfl) ((blk_facts (cM W2 (below_then hW hW2))).1 6 _ rfl) ((blk_facts (cM W2 (below_then hW hW2))).1 7 _ rfl) ((blk_facts (cM W2 (below_then hW hW2))).1 8 _ rfl) ((blk_facts (cM W2 (below_then hW hW2))).1 9 _ rfl))
      (fun g W3 j v hg hk => hk.set (by omega) (by omega) j v)).mono (fun e w' hh => by
        obtain ⟨g, he, hg, hk, hb⟩ := hh
        exact ⟨g, he, hg, hk.mono (by omega), hb⟩)) (fun g W j v hg hk => hk.set (by omega) (by omega) j v))
    obtain ⟨pa, pb, pk, fd, kf, H0, rfl⟩ := unhide HH
    have HH0 := hide H0
    have HM := hide hM
    have HCM := hide cM
    have HN := hide (And.intro hb1 (And.intro hM1 (And.intro hbM (And.intro hMlt hblt))))
    have HBC := hide hBC
    have HA1 : Hid (wc.heap[w.heap.size + 1]? = some (.cells #[.int .i64 0] 3 (0, 0))) := (hbel.block (w.heap.size + 1) (by omega)).trans (unhide HA0)
    clear HH H0 hM cM hb1 hM1 hbM hMlt hblt hBC HUS HA0 hbel hz
    go_wp2_with fail
    refine (unhide HBest).mono ?_
    rintro e w2 ⟨g, rfl, hg, ⟨rb, ro, rc, hgp, hrow, hrb⟩, hb⟩
    unfold planV
    have d12 := (hb.cell (World.block_lt_of_cell? wc _ cb)).trans cb
    have hM2 := unhide HCM w2 hb
    obtain ⟨mc, _⟩ := blk_facts hM2
    have n0 := mc 0 _ rfl
    have n2 := mc 2 _ rfl
    have n10 := mc 10 _ rfl
    unfold planE at hgp
    obtain ⟨gc, _⟩ := blk_facts hgp
    have g0 := gc 0 _ rfl
    have g1 := gc 1 _ rfl
    have g2 := gc 2 _ rfl
    have g3 := gc 3 _ rfl
    have g4 := gc 4 _ rfl
    have g5 := gc 5 _ rfl
    obtain ⟨P, hP⟩ : ∃ x, x = (putR h ⟨true, l', []⟩).1 := ⟨_, rfl⟩
    obtain ⟨hb1, hM1, hbM, hMlt, hblt⟩ := unhide HN
    have hz := unhide HSZ
    have hMF : M ∉ foot p pa pb pk fd := fun hx => by have := (unhide HH0).lt M hx; omega
    have hbF : b ∉ M :: foot p pa pb pk fd := fun hx => by
      rcases List.mem_cons.1 hx with q | q
      · exact hbM q
      · have := (unhide HH0).lt b q; omega
    have hgF : g ∉ M :: foot p pa pb pk fd := fun hx => by
      rcases List.mem_cons.1 hx with q | q
      · omega
      · have := (unhide HH0).lt g q
        have := (unhide HBC).size
        omega
    have hAF : w.heap.size + 1 ∉ M :: foot p pa pb pk fd := fun hx => by
      rcases List.mem_cons.1 hx with q | q
      · omega
      · have := (unhide HH0).lt _ q; omega
    have hput := put_leafS M ⟨#[]⟩ l' (some ⟨rb, ro, none⟩) rc w2.drew ((unhide HH0).grow (below_then (unhide HBC) hb).drew) ⟨_, hM2⟩ n0 n10 hMF (hrow.grow (below_drew _)) (unhide HA).1 (unhide HA).2.1 (unhide HA).2.2.1 (unhide HA).2.2.2
    rw [← hP] at hput
    have HPut := hide hput
    have HPE := hide hP
    have HA2 : Hid (w2.heap[w.heap.size + 1]? = some (.cells #[.int .i64 0] 3 (0, 0))) := (hb.block (w.heap.size + 1) (by have := (unhide HBC).size; omega)).trans (unhide HA1)
    have HBD := hide (below_then (unhide HBC) hb)
    have HF := hide (And.intro hMF (And.intro hbF (And.intro hgF hAF)))
    have HG := hide hg
    have HW2 : Hid (wc.heap.size ≤ w2.heap.size) := hb.size
    clear hP hput hgp hrow hrb hb hM2 mc gc hMF hbF hgF hAF hb1 hM1 hbM hMlt hblt hz hg HBest HCM HM HA1 n0 n10
    go_wp2_with fail
    have HS4 : Hid (∀ w4 : World, Moves (M :: foot p pa pb pk fd) w2.drew w4 → w4.cell? ⟨b, 0, none⟩ = some (.pointer (some ⟨M, 0, none⟩)) ∧ w4.cell? ⟨g, 0, none⟩ = some (.string ⟨#[]⟩) ∧ w4.cell? ⟨g, 1, none⟩ = some (.string ⟨#[]⟩) ∧ w4.cell? ⟨g, 2, none⟩ = some (.int .i64 0) ∧ w4.cell? ⟨g, 3, none⟩ = some (.bool true) ∧ w4.cell? ⟨g, 4, none⟩ = some (.slice (some ⟨rb, ro, none⟩) l'.length rc) ∧ w4.cell? ⟨g, 5, none⟩ = some (.int .i64 1)) := fun w4 hm => by
      obtain ⟨_, f2, f3, _⟩ := unhide HF
      exact ⟨cell_moves (w := w2.drew) hm d12 f2, cell_moves (w := w2.drew) hm g0 f3, cell_moves (w := w2.drew) hm g1 f3, cell_moves (w := w2.drew) hm g2 f3, cell_moves (w := w2.drew) hm g3 f3, cell_moves (w := w2.drew) hm g4 f3, cell_moves (w := w2.drew) hm g5 f3⟩
    have HA4 : Hid (∀ w4 : World, Moves (M :: foot p pa pb pk fd) w2.drew w4 → w4.heap[w.heap.size + 1]? = some (.cells #[.int .i64 0] 3 (0, 0))) := fun w4 hm => (hm.block (w.heap.size + 1) (Array.getElem?_eq_some_iff.1 (unhide HA2)).1 (unhide HF).2.2.2).trans (unhide HA2)
    have e0 := g0
    have HSX : Hid (∀ (w4 : World) (v : Value), Moves (M :: foot p pa pb pk fd) w2.drew w4 → (fun w' => w'.cell? ⟨b, 0, none⟩ = some (.pointer (some ⟨M, 0, none⟩)) ∧ w'.cell? ⟨g, 0, none⟩ = some (.string ⟨#[]⟩) ∧ w'.cell? ⟨g, 1, none⟩ = some (.string ⟨#[]⟩) ∧ w'.cell? ⟨g, 2, none⟩ = some (.int .i64 0) ∧ w'.cell? ⟨g, 3, none⟩ = some (.bool true) ∧ w'.cell? ⟨g, 4, none⟩ = some (.slice (some ⟨rb, ro, none⟩) l'.length rc) ∧ w'.cell? ⟨g, 5, none⟩ = some (.int .i64 1)) (w4.setCell ⟨w.heap.size + 1, 0, none⟩ v)) := fun w4 v hm => by
      obtain ⟨q0, q1, q2, q3, q4, q5, q6⟩ := unhide HS4 w4 hm
      have hba : w.heap.size + 1 ≠ b := by
        have := (unhide HN).1
        have := unhide HSZ
        omega
      have hga : w.heap.size + 1 ≠ g := by
        have := unhide HG
        have := (unhide HN).2.2.2.1
        have := (unhide HN).2.1
        have := unhide HSZ
        omega
      have t : ∀ (x i : Nat) (u : Value), w.heap.size + 1 ≠ x → w4.cell? ⟨x, i, none⟩ = some u → (w4.setCell ⟨w.heap.size + 1, 0, none⟩ v).cell? ⟨x, i, none⟩ = some u := fun x i u hx hu => (World.cell?_setCell_other _ _ _ _ (by first | (simp; done) | (simp; omega))).trans hu
      exact ⟨t _ _ _ hba q0, t _ _ _ hga q1, t _ _ _ hga q2, t _ _ _ hga q3, t _ _ _ hga q4, t _ _ _ hga q5, t _ _ _ hga q6⟩
    go_region_held3 (fun w' => w'.cell? ⟨b, 0, none⟩ = some (.pointer (some ⟨M, 0, none⟩)) ∧ w'.cell? ⟨g, 0, none⟩ = some (.string ⟨#[]⟩) ∧ w'.cell? ⟨g, 1, none⟩ = some (.string ⟨#[]⟩) ∧ w'.cell? ⟨g, 2, none⟩ = some (.int .i64 0) ∧ w'.cell? ⟨g, 3, none⟩ = some (.bool true) ∧ w'.cell? ⟨g, 4, none⟩ = some (.slice (some ⟨rb, ro, none⟩) l'.length rc) ∧ w'.cell? ⟨g, 5, none⟩ = some (.int .i64 1))
      (first | assumption | exact ⟨d12, g0, g1, g2, g3, g4, g5⟩ | exact unhide HS4 _ (unhide K3) | exact unhide HSX _ _ (unhide K3))
      (first | (go_at_call 85; refine (unhide HPut).mono ?_; rintro e w4 ⟨mg, mc, rfl, k10, kg, hg4, fd', k1, k2, k3, k4⟩; have K3 := hide k3; obtain ⟨ac, af⟩ := blk_facts (unhide HA4 _ k3); have a0 := ac 0 _ rfl; have af0 := af 0; have HK := hide (And.intro k10 (And.intro kg (And.intro hg4 (And.intro k1 (And.intro k2 k4))))); clear k10 kg hg4 k1 k2 k3 k4 ac af))
    have hd12 := (unhide HS4 _ (unhide K3)).1
    have HD12 := hide hd12
    clear HPut HSX HS4 HA4 HA2 e0 d12 g0 g1 g2 g3 g4 g5 n2 hd12
    go_wp2_with fail
    obtain ⟨k10, kg, hg4, k1, k2, k4⟩ := unhide HK
    obtain ⟨hMF, hbF, hgF, hAF⟩ := unhide HF
    have hz := unhide HSZ
    obtain ⟨hb1, hM1, hbM, hMlt, hblt⟩ := unhide HN
    have hbd := (unhide HBD).size
    have hbc := (unhide HBC).size
    have hg := unhide HG
    have hs2 : w2.heap.size ≤ mg := hg4
    have hw2 := unhide HW2
    have hcA := World.cell?_setCell_same w4 ⟨w.heap.size + 1, 0, none⟩ (.int .i64 P) a0
    have t : ∀ (x i : Nat) (u : Value), w.heap.size + 1 ≠ x → w4.cell? ⟨x, i, none⟩ = some u → (w4.setCell ⟨w.heap.size + 1, 0, none⟩ (.int .i64 P)).cell? ⟨x, i, none⟩ = some u := fun x i u hx hu => (World.cell?_setCell_other _ _ _ _ (by first | (simp; done) | (simp; omega))).trans hu
    refine leaves_cons (f := 83) (args := #[.pointer (some ⟨b, 0, none⟩), .pointer (some ⟨w.heap.size + 1, 0, none⟩)]) (by simp) (by simp [go_sem]) ?_
    refine (closes_one M mg b (w.heap.size + 1) mc P .returning _ (t _ _ _ (by omega) (unhide HD12)) (World.cell?_setCell_same _ _ _ a0) (t _ _ _ (by omega) k10) (t _ _ _ (by omega) kg)).mono ?_
    rintro e u' w'' ⟨rfl, rfl, rfl⟩
    refine ⟨.tuple #[.int .i64 P, .int .i64 0], ?_, ?_, ?_⟩
    · rw [results_cell_tmp rfl]
      go_simp <;> rfl
    · rw [← unhide HPE]
    · have H0 := unhide HH0
      have hAF' : w.heap.size + 1 ∉ foot p pa pb pk fd' := fun hx => by
        simp only [foot, List.mem_cons, not_or] at hx hAF
        rcases hx with q | q | q | q | q
        · exact hAF.2.1 q
        · exact hAF.2.2.1 q
        · exact hAF.2.2.2.1 q
        · exact hAF.2.2.2.2.1 q
        · rcases k4 _ q with h1 | h1
          · exact hAF.2.2.2.2.2 h1
          · have h2 : w2.heap.size ≤ w.heap.size + 1 := h1
            omega
      refine ⟨foot p pa pb pk fd', ⟨pa, pb, pk, fd', kf, HeapAt.aside2 k1 (fq := [w.heap.size + 1]) (L5.Moves.set w4 (w.heap.size + 1) 0 _ (by simp)) (fun x hx => by simp at hx; rw [hx]; exact hAF') (by simp) (fun j hj v hv y hy hx => ?_), rfl⟩, ?_, ?_⟩
      · have hI : Ints w v (h.kids j) := by have := H0.kid j hj; rw [hv] at this; exact this
        have := hI.lt y hy
        simp at hx
        omega
      · have q1 : Moves (foot p pa pb pk fd) w w2.drew := L5.Moves.of_below _ (unhide HBD).drew
        have q2 := L5.Moves.trans q1 (unhide K3) (fun x hx => by
          rcases List.mem_cons.1 hx with e | e
          · exact .inr (by omega)
          · exact .inl e)
        exact L5.Moves.trans q2 (L5.Moves.set w4 (w.heap.size + 1) 0 (.int .i64 P) (fp := [w.heap.size + 1]) (by simp)) (fun x hx => by simp at hx; exact .inr (by omega))
      · intro x hx
        simp only [foot, List.mem_cons] at hx ⊢
        rcases hx with q | q | q | q | q
        · exact .inl (.inl q)
        · exact .inl (.inr (.inl q))
        · exact .inl (.inr (.inr (.inl q)))
        · exact .inl (.inr (.inr (.inr (.inl q))))
        · rcases k4 _ q with h1 | h1
          · exact .inl (.inr (.inr (.inr (.inr h1))))
          · have h2 : w2.heap.size ≤ x := h1
            exact .inr (by omega)
end Go.Proofs.YtdelobaiicoogaaGreatDoor

/- What Put makes of no items. -/
namespace Go.Proofs.YtdelobaiicoogaaGreatDoor
open Go.ChangeShapes Go.WideShapes Go.ChangeAt Go.RowKit
attribute [local go_sem] Oper.semAt_some

theorem nil_ok {W : World} {key val : ByteArray} :
    ∀ (i : Nat) (x : Pt3), ([((none : Option Addr), 0, []), ((some ⟨W.heap.size, 0, none⟩ : Option Addr), 1, [(key, val)]), ((none : Option Addr), 0, [])] : List Pt3)[i]? = some x →
      ((W.alloc (.cells #[.string key, .string val] 58)).alloc (.cells #[.slice none 0 0, .slice (some ⟨W.heap.size, 0, none⟩) 1 1, .slice none 0 0] 35)).drew.cell? ⟨W.heap.size + 1, i, none⟩ = some (.slice x.1 x.2.2.length x.2.1) ∧
      L6.Row itV ((W.alloc (.cells #[.string key, .string val] 58)).alloc (.cells #[.slice none 0 0, .slice (some ⟨W.heap.size, 0, none⟩) 1 1, .slice none 0 0] 35)).drew x.1 x.2.2 := by
  have b2 := below_alloc (W.alloc (.cells #[.string key, .string val] 58)) (.cells #[.slice none 0 0, .slice (some ⟨W.heap.size, 0, none⟩) 1 1, .slice none 0 0] 35)
  have hn := heap_alloc_new (W.alloc (.cells #[.string key, .string val] 58)) (.cells #[.slice none 0 0, .slice (some ⟨W.heap.size, 0, none⟩) 1 1, .slice none 0 0] 35)
  rw [World.size_alloc] at hn
  intro i x hx
  match i, hx with
  | 0, hx =>
    cases hx
    exact ⟨cell_in hn rfl, .inl rfl⟩
  | 1, hx =>
    cases hx
    refine ⟨cell_in hn rfl, .inr ⟨W.heap.size, 0, rfl, ?_⟩⟩
    intro j y hy
    match j, hy with
    | 0, hy =>
      cases hy
      have hm : ((W.alloc (.cells #[.string key, .string val] 58)).alloc (.cells #[.slice none 0 0, .slice (some ⟨W.heap.size, 0, none⟩) 1 1, .slice none 0 0] 35)).drew.heap[W.heap.size]? = some (.cells #[.string key, .string val] 58 (0, 0)) :=
        (b2.block _ (by rw [World.size_alloc]; omega)).trans (heap_alloc_new W _)
      exact ⟨cell_in hm rfl, cell_in hm rfl⟩
    | j + 1, hy => simp at hy
  | 2, hx =>
    cases hx
    exact ⟨cell_in hn rfl, .inl rfl⟩
  | i + 3, hx => simp at hx
theorem nil_calls {W : World} {key val : ByteArray} :
    Calls Tryz.prog 48 #[.slice (some ⟨W.heap.size + 1, 0, none⟩) 3 3] ((W.alloc (.cells #[.string key, .string val] 58)).alloc (.cells #[.slice none 0 0, .slice (some ⟨W.heap.size, 0, none⟩) 1 1, .slice none 0 0] 35)).drew
      fun e w' => ∃ v, e = .returned v ∧ OwnI W.heap.size w' v [(key, val)] ∧ Below W.heap.size W w' := by
  have b1 := below_alloc W (.cells #[.string key, .string val] 58)
  have b2 := below_then b1 (below_alloc (W.alloc (.cells #[.string key, .string val] 58)) (.cells #[.slice none 0 0, .slice (some ⟨W.heap.size, 0, none⟩) 1 1, .slice none 0 0] 35))
  have b3 := below_then b2 (below_drew _)
  refine (concat_any ([((none : Option Addr), 0, []), ((some ⟨W.heap.size, 0, none⟩ : Option Addr), 1, [(key, val)]), ((none : Option Addr), 0, [])] : List Pt3) (W.heap.size + 1) 3 _ nil_ok (by unfold lens; simp) (by show 3 ≤ 1000; decide)).mono ?_
  rintro e w' ⟨v, rfl, ho, hb⟩
  exact ⟨v, rfl, ho.base b3.size, below_then b3 hb⟩
set_option maxHeartbeats 4000000 in
set_option maxRecDepth 20000 in
theorem edit_put0 (key val : ByteArray) (kc vc : Nat) (w : World)
    (hk : w.cell? ⟨kc, 0, none⟩ = some (.string key)) (hv : w.cell? ⟨vc, 0, none⟩ = some (.string val)) :
    Calls Tryz.prog 46 #[.slice none 0 0, .pointer (some ⟨kc, 0, none⟩), .pointer (some ⟨vc, 0, none⟩)] w fun e w' => ∃ v, e = .returned v ∧ OwnI w.heap.size w' v [(key, val)] ∧ Below w.heap.size w w' := by
  have HPL := hide (placeOf_any [] none 0 key w (.inl rfl) (by simp))
  have hp : placeN [] key = (0, 0) := by
    have := placeN_le [] key
    simp only [List.length_nil] at this
    exact Prod.ext (by omega) (by omega)
  rw [hp] at HPL
  simp only [List.length_nil] at HPL
  clear hp
  go_enter Tryz.func46, Tryz.ntmps46
  go_wp2_with (go_at_call 47; refine (unhide HPL).mono ?_; rintro e w1 ⟨rfl, hb1⟩; have k1 := (hb1.cell (World.block_lt_of_cell? _ _ hk)).trans hk; have v1 := (hb1.cell (World.block_lt_of_cell? _ _ hv)).trans hv; have HB1 := hide hb1; clear hb1)
  clear hk hv
  go_region_held3 (fun w' => w'.cell? ⟨kc, 0, none⟩ = some (.string key) ∧ w'.cell? ⟨vc, 0, none⟩ = some (.string val))
    (first | assumption | exact ⟨k1, v1⟩ | exact ⟨k5, l5⟩ | exact ⟨cell_later _ k1, cell_later _ v1⟩ | exact ⟨cell_later _ (cell_later _ k1), cell_later _ (cell_later _ v1)⟩)
    (first | (go_at_call 48; refine nil_calls.mono ?_; rintro e w5 ⟨v5, rfl, ho5, hb5⟩; have k5 := (hb5.cell (World.block_lt_of_cell? _ _ k1)).trans k1; have l5 := (hb5.cell (World.block_lt_of_cell? _ _ v1)).trans v1; have HX := hide (And.intro ho5 hb5); clear ho5 hb5))
  go_wp2
  go_ret
  exact ⟨_, rfl, (unhide HX).1.base (unhide HB1).size, below_then (unhide HB1) (unhide HX).2⟩
end Go.Proofs.YtdelobaiicoogaaGreatDoor
