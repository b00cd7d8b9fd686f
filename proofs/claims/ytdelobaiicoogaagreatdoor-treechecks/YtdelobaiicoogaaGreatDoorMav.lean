/- Texts that the proof needs, one behind the other. -/
import Derived.Test.YtdelobaiicoogaaGreatDoorMau
import Derived.Test.YtdelobaiicoogaaGreatDoorMaq
import Derived.Test.YtdelobaiicoogaaGreatDoorMas
/- The document's allocator: Drop. -/
namespace Go.Proofs.YtdelobaiicoogaaGreatDoor.L5
open Go.ChangeShapes Go.WideShapes Go.ChangeAt Go.RowKit

variable {w w' : World} {r g fr : Nat} {l : List St}

set_option maxHeartbeats 1000000 in
set_option maxRecDepth 20000 in
theorem rdrop_free (n gen : Int) (hn : I64 n) (w : World) (h : RefAt w r g fr l) (hc : cntS (sec fr l n) = 0) :
    Calls Tryz.prog 37 #[.pointer (some ⟨r, 0, none⟩), .int .i64 n, .int .i64 gen] w fun e w' => e = .returned (.int .i64 51) ∧ Below w.heap.size w w' := by
  by_cases hi : In fr l n
  · have hlt := ix_lt hi
    have HR := hide (rat_in n w h hi)
    have HH := hide h
    have HI := hide hi
    have hlt' : (ix fr n : Int) < (l.length : Int) := by omega
    have HX := hide hc
    clear h hi hc hn
    go_enter Tryz.func37, Tryz.ntmps37
    go_wp2_with (go_at_call 65; refine (unhide HR).mono ?_; rintro e w1 ⟨rfl, hb1⟩; have hA := (unhide HH).grow hb1; have HB1 := hide hb1; have c1 := hA.cell1; obtain ⟨q, hq, hrep⟩ := hA.at (unhide HI); have q0 := hq.c0; rw [hrep.cnt, unhide HX] at q0; have q0' : w1.cell? ⟨g, ix fr n * 4, none⟩ = some (.int .i64 0) := q0; clear hA hb1 hq hrep q0)
    go_ret
    exact ⟨rfl, unhide HB1⟩
  · have HR := hide (rat_out n hn w h hi)
    clear h hi hn hc
    go_enter Tryz.func37, Tryz.ntmps37
    go_wp2_with (go_at_call 65; refine (unhide HR).mono ?_; rintro e w1 ⟨rfl, hb1⟩; have HB1 := hide hb1; clear hb1)
    go_ret
    exact ⟨rfl, unhide HB1⟩
set_option maxHeartbeats 1000000 in
set_option maxRecDepth 20000 in
theorem rdrop_more (n gen : Int) (w : World) (h : RefAt w r g fr l) (c : Nat) (gn : Int) (hs : sec fr l n = some (c + 2, gn)) :
    Calls Tryz.prog 37 #[.pointer (some ⟨r, 0, none⟩), .int .i64 n, .int .i64 gen] w fun e w' => e = .returned (.int .i64 0) ∧ RefAt w' r g fr (upd fr l n (some (c + 1, gn))) ∧ Moves [g] w w' := by
  have hi := sec_some hs
  have hlt := ix_lt hi
  have HR := hide (rat_in n w h hi)
  have HH := hide h
  have HI := hide hi
  have hlt' : (ix fr n : Int) < (l.length : Int) := by omega
  have HX := hide hs
  have hgo := h.ok.sec n
  rw [hs] at hgo
  have hgo2 : c + 2 ≤ 5000 ∧ I64 gn := hgo
  have HG := hide hgo2
  obtain ⟨x, hx⟩ : ∃ x : Int, x = ((c + 1 : Nat) : Int) + 1 := ⟨_, rfl⟩
  obtain ⟨y, hy⟩ : ∃ y : Int, y = x - 1 := ⟨_, rfl⟩
  have x0 : (x == 0) = false := beq_false_of_ne (by omega)
  have y0 : (y == 0) = false := beq_false_of_ne (by omega)
  have n0 : decide ((ix fr n : Int) < 0) = false := decide_eq_false (by omega)
  have hw : IntKind.i64.wrap (x - 1) = y := by rw [IntKind.wrap_i64]; omega
  have HXX := hide (And.intro hx hy)
  clear h hi hs hgo hgo2 hx hy
  go_enter Tryz.func37, Tryz.ntmps37
  go_wp2_with (go_at_call 65; refine (unhide HR).mono ?_; rintro e w1 ⟨rfl, hb1⟩; have hA := (unhide HH).grow hb1; have HA := hide hA; have HB1 := hide hb1; have c1 := hA.cell1; have hf := hA.free; obtain ⟨q, hq, hrep⟩ := hA.at (unhide HI); rw [unhide HX] at hrep; have q0 := hq.c0; rw [hrep.1, ← (unhide HXX).1] at q0; have hne : r ≠ g := hA.ne; have HQ := hide (And.intro hq hrep); clear hA hb1 hq hrep)
  go_ret
  rw [upd_in _ (unhide HI)]
  have hrep := (unhide HQ).2
  exact ⟨rfl, (unhide HA).set0 (c := y) (s := some (c + 1, gn)) hlt (unhide HQ).1 ⟨by show y = (c : Int) + 1; have := unhide HXX; omega, hrep.2.1, hrep.2.2⟩ ⟨by have := (unhide HG).1; omega, (unhide HG).2⟩, (Moves.of_below _ (unhide HB1)).then (Moves.set _ _ _ _ (by simp))⟩
set_option maxHeartbeats 2000000 in
set_option maxRecDepth 20000 in
theorem rdrop_last (n gen : Int) (hgen : I64 gen) (w : World) (h : RefAt w r g fr l) (gn : Int) (hs : sec fr l n = some (1, gn)) (s' : St) (hs' : s' = if gn = gen then none else some (0, gen)) :
    Calls Tryz.prog 37 #[.pointer (some ⟨r, 0, none⟩), .int .i64 n, .int .i64 gen] w fun e w' => e = .returned (.int .i64 0) ∧ RefAt w' r g fr (upd fr l n s') ∧ Moves [g] w w' := by
  have hi := sec_some hs
  have hlt := ix_lt hi
  have HR := hide (rat_in n w h hi)
  have HH := hide h
  have HI := hide hi
  have hlt' : (ix fr n : Int) < (l.length : Int) := by omega
  have HX := hide hs
  have HGEN := hide hgen
  have hrep' : Rep ⟨0, 0, gen, gn != gen⟩ s' ∧ goodS s' := by
    rw [hs']
    by_cases e : gn = gen
    · rw [if_pos e, e]
      exact ⟨⟨rfl, by simp⟩, trivial⟩
    · rw [if_neg e]
      exact ⟨⟨rfl, by simp [e], rfl⟩, by decide, hgen⟩
  have HREP := hide hrep'
  have n0 : decide ((ix fr n : Int) < 0) = false := decide_eq_false (by omega)
  clear h hi hs hgen hs' hrep'
  go_enter Tryz.func37, Tryz.ntmps37
  go_wp2_with (go_at_call 65; refine (unhide HR).mono ?_; rintro e w1 ⟨rfl, hb1⟩; have hA := (unhide HH).grow hb1; have HA := hide hA; have HB1 := hide hb1; have c1 := hA.cell1; have hf := hA.free; obtain ⟨q, hq, hrep⟩ := hA.at (unhide HI); rw [unhide HX] at hrep; have q0 := hq.c0; rw [hrep.1] at q0; have q0' : w1.cell? ⟨g, ix fr n * 4, none⟩ = some (.int .i64 1) := q0; have hne : r ≠ g := hA.ne; have HQ := hide (And.intro hq hrep); clear hA hb1 hq hrep q0)
  have hS := (unhide HA).set0 (c := 0) (s := none) hlt (unhide HQ).1 ⟨rfl, (unhide HQ).2.2.1⟩ trivial
  have hcs : CellsAt (w1.setCell ⟨g, ix fr n * 4, none⟩ (.int .i64 0)) g (ix fr n * 4) ⟨0, gn, q.f, q.wt⟩ := by
    refine ⟨World.cell?_setCell_same _ _ _ (unhide HQ).1.c0, ?_, ?_, ?_⟩
    · rw [World.cell?_setCell_other _ _ _ _ (addr_ne (by omega)), (unhide HQ).1.c1, (unhide HQ).2.2.2]
    · exact (World.cell?_setCell_other _ _ _ _ (addr_ne (by omega))).trans (unhide HQ).1.c2
    · exact (World.cell?_setCell_other _ _ _ _ (addr_ne (by omega))).trans (unhide HQ).1.c3
  have HM : Hid (Moves [g] w (w1.setCell ⟨g, ix fr n * 4, none⟩ (.int .i64 0)).drew) := (Moves.of_below _ (unhide HB1)).then ((Moves.set _ _ _ _ (by simp)).then (Moves.drew _ _))
  have hS2 := hS.grow ((Below.refl _ _).drew)
  have hlen2 : (l.set (ix fr n) none).length = l.length := List.length_set
  have d1 := hS.cell1
  rw [hlen2] at d1
  have df := hS.free
  have e0 : (w1.setCell ⟨g, ix fr n * 4, none⟩ (.int .i64 0)).cell? ⟨g, ix fr n * 4, none⟩ = some (.int .i64 0) := hcs.c0
  have e1 : (w1.setCell ⟨g, ix fr n * 4, none⟩ (.int .i64 0)).cell? ⟨g, ix fr n * 4 + 1, none⟩ = some (.int .i64 gn) := hcs.c1
  have e2 : (w1.setCell ⟨g, ix fr n * 4, none⟩ (.int .i64 0)).cell? ⟨g, ix fr n * 4 + 2, none⟩ = some (.int .i64 q.f) := hcs.c2
  have e3 : (w1.setCell ⟨g, ix fr n * 4, none⟩ (.int .i64 0)).cell? ⟨g, ix fr n * 4 + 3, none⟩ = some (.bool q.wt) := hcs.c3
  have HS2 := hide hS
  clear hS hS2 hcs hf c1 q0'
  generalize w1.setCell ⟨g, ix fr n * 4, none⟩ (.int .i64 0) = wa at *
  go_region
  all_goals
    go_wp2
    go_ret
    rw [upd_in _ (unhide HI)]
    have hp := (unhide HS2).put (i := ix fr n) (by rw [List.length_set]; exact hlt) (unhide HREP).1 (unhide HREP).2
    rw [List.set_set] at hp
    exact ⟨rfl, hp.grow (Below.refl _ _).drew, (unhide HM).then (put4_moves wa.drew g (ix fr n * 4) ⟨0, 0, gen, gn != gen⟩)⟩
theorem rdrop_any (n gen : Int) (w : World) (h : RefAt w r g fr l) (hn : I64 n) (hgen : I64 gen) :
    Calls Tryz.prog 37 #[.pointer (some ⟨r, 0, none⟩), .int .i64 n, .int .i64 gen] w fun e w' => e = .returned (.int .i64 (dropE fr l n)) ∧ RefAt w' r g fr (dropM fr l n gen) ∧ Moves [g] w w' := by
  unfold dropE dropM
  by_cases h0 : cntS (sec fr l n) = 0
  · have e2 : dropS gen (sec fr l n) = sec fr l n := by
      cases hs : sec fr l n with
      | none => rfl
      | some x => obtain ⟨c, g⟩ := x; rw [hs] at h0; change c = 0 at h0; subst h0; rfl
    rw [if_pos h0, e2, upd_same]
    refine (rdrop_free n gen hn w h h0).mono ?_
    rintro e w' ⟨rfl, hb⟩
    exact ⟨rfl, h.grow hb, Moves.of_below _ hb⟩
  · rw [if_neg h0]
    cases hs : sec fr l n with
    | none => rw [hs] at h0; exact absurd rfl h0
    | some x =>
      obtain ⟨c, gn⟩ := x
      rw [hs] at h0
      change ¬ c = 0 at h0
      match c, h0, hs with
      | 1, _, hs => exact rdrop_last n gen hgen w h gn hs _ rfl
      | c + 2, _, hs => exact rdrop_more n gen w h c gn hs
end Go.Proofs.YtdelobaiicoogaaGreatDoor.L5

/- The document's allocator: Take, Free, Room, Waiting. -/
namespace Go.Proofs.YtdelobaiicoogaaGreatDoor.L5
open Go.ChangeShapes Go.WideShapes Go.ChangeAt Go.RowKit

variable {w w' : World} {r g fr : Nat} {l : List St}

theorem Rep.free {q : Rc} {s : St} (h : Rep q s) : freeS s = ((q.c == 0) && !q.wt) := by
  match s, h with
  | none, h => rw [h.1, h.2]; rfl
  | some (0, g), h => rw [h.1, h.2.1]; rfl
  | some (c + 1, g), h =>
    rw [h.1, h.2.1, beq_false_of_ne (by omega)]
    rfl
/-! Free -/
/-! Take -/
set_option maxHeartbeats 4000000 in
set_option maxRecDepth 20000 in
theorem rtake_any (gen : Int) (hgen : I64 gen) (w : World) (h : RefAt w r g fr l) :
    Calls Tryz.prog 33 #[.pointer (some ⟨r, 0, none⟩), .int .i64 gen] w fun e w' => e = .returned (.tuple #[.int .i64 (takeN fr l), .int .i64 (takeE l)]) ∧ RefAt w' r g fr (takeM l gen) ∧ Moves [g] w w' := by
  have c0 := h.cell0
  have c1 := h.cell1
  have hf := h.free
  have hfew := h.ok.few
  have HH := hide h
  have HG := hide hgen
  have hne : (⟨r, 0, none⟩ : Addr) ≠ ⟨g, 0, none⟩ := fun e => h.ne (by injection e)
  have hrg : r ≠ g := h.ne
  clear h hgen
  go_enter Tryz.func33, Tryz.ntmps33
  go_wp2_with fail
  go_loopw [6] (fun v wr => ∃ k : Nat, k ≤ l.length ∧ v = .int .i64 (k : Int) ∧ wr = w ∧ ∀ j, j < k → l[j]? ≠ some none) (fun v _ => l.length - (intOf v).toNat)
  case atStart => exact ⟨0, Nat.zero_le _, rfl, rfl, fun j hj => absurd hj (Nat.not_lt_zero _)⟩
  case round =>
    obtain ⟨k, hk, rfl, rfl, hp⟩ := hrel
    have HP := hide hp
    clear hp
    by_cases hlt : k < l.length
    · have hlt' : (k : Int) < (l.length : Int) := by omega
      obtain ⟨q, hq, hrep⟩ := (unhide HH).row k l[k] (List.getElem?_eq_getElem hlt)
      have q0 := hq.c0
      have q1 := hq.c1
      have q2 := hq.c2
      have q3 := hq.c3
      have hfr := hrep.free
      have HF := hide hfr
      clear hq hrep hfr
      have next : Hid (freeS l[k] = false → ∀ j, j < k + 1 → l[j]? ≠ some none) := by
        intro e j hj
        by_cases ej : j = k
        · subst ej
          rw [List.getElem?_eq_getElem hlt]
          intro e2
          rw [Option.some.inj e2] at e
          cases e
        · exact unhide HP j (by omega)
      by_cases hc : q.c = 0
      · rw [hc] at q0
        cases hwt : q.wt with
        | true =>
          rw [hwt] at q3
          have HN : Hid (freeS l[k] = false) := by show freeS l[k] = false; rw [unhide HF, hwt]; simp
          go_wp2
          go_roundw
          case rel => exact ⟨k + 1, by omega, by go_num, trivial, unhide next (unhide HN)⟩
          case measure => simp [intOf]; omega
        | false =>
          rw [hwt] at q3
          have hat : l[k]? = some none := by
            rw [List.getElem?_eq_getElem hlt, (freeS_iff l[k]).1 (by rw [unhide HF, hwt, hc]; rfl)]
          have htk := take_some hat (unhide HP)
          have en : takeN fr l = (fr : Int) + (k : Int) := by unfold takeN; rw [htk]
          have ee : takeE l = 0 := by unfold takeE; rw [htk]
          have em : takeM l gen = l.set k (some (1, gen)) := by unfold takeM; rw [htk]
          have HE := hide (And.intro en (And.intro ee em))
          have hw : IntKind.i64.wrap ((fr : Int) + (k : Int)) = (fr : Int) + (k : Int) := by rw [IntKind.wrap_i64]; omega
          have HS := hide ((unhide HH).put (q := ⟨1, gen, 0, false⟩) (s := some (1, gen)) hlt ⟨rfl, rfl, rfl⟩ ⟨by decide, unhide HG⟩)
          have z0 := (unhide HS).cell0
          unfold put4 at z0
          clear hat htk en ee em next
          go_wp2
          go_ret2
          obtain ⟨en, ee, em⟩ := unhide HE
          rw [en, ee, em]
          exact ⟨rfl, unhide HS, put4_moves _ _ _ ⟨1, gen, 0, false⟩⟩
      · have hcb : (q.c == 0) = false := beq_false_of_ne hc
        have HN : Hid (freeS l[k] = false) := by show freeS l[k] = false; rw [unhide HF, hcb]; rfl
        go_wp2
        go_roundw
        case rel => exact ⟨k + 1, by omega, by go_num, trivial, unhide next (unhide HN)⟩
        case measure => simp [intOf]; omega
    · have hlt' : ¬ (k : Int) < (l.length : Int) := by omega
      have hkl : k = l.length := by omega
      subst hkl
      have htk := take_none (unhide HP)
      have en : takeN fr l = 0 := by unfold takeN; rw [htk]
      have ee : takeE l = 50 := by unfold takeE; rw [htk]
      have em : takeM l gen = l := by unfold takeM; rw [htk]
      have HE := hide (And.intro en (And.intro ee em))
      clear htk en ee em
      go_wp2
      go_ret2
      obtain ⟨en, ee, em⟩ := unhide HE
      rw [en, ee, em]
      exact ⟨rfl, unhide HH, Moves.refl _ _⟩
end Go.Proofs.YtdelobaiicoogaaGreatDoor.L5

/- The document's heap in memory. -/
namespace Go.Proofs.YtdelobaiicoogaaGreatDoor
open Go.ChangeShapes Go.WideShapes Go.ChangeAt Go.RowKit

/-- a block's kind -/
def Kd (w : World) (x : Nat) (t : TypeId) : Prop := ∃ cs, w.heap[x]? = some (.cells cs t (0, 0))
theorem Kd.one {w : World} {x : Nat} {t u : TypeId} (h1 : Kd w x t) (h2 : Kd w x u) : t = u := by
  obtain ⟨c1, h1⟩ := h1
  obtain ⟨c2, h2⟩ := h2
  rw [h1] at h2
  injection h2 with h2
  injection h2
theorem Ints.kd {w : World} {v : Value} {l : List Int} {g : Nat} (h : Ints w v l) (hv : v.ownBlock = some g) : Kd w g 3 := h.kind hv

/-- the document's heap in memory -/
structure RhAt (w : World) (q r : Nat) (h : Hp) (a g : Nat) (fr : List Nat) (kv : List Value) : Prop where
  blk : w.heap[q]? = some (.cells (.pointer (some ⟨r, 0, none⟩) :: .pointer (some ⟨a, 0, none⟩) :: .int .i64 h.gen :: kv).toArray 74 (0, 0))
  kl : kv.length = 4096
  kid : ∀ i v, kv[i]? = some v → Ints w v (h.kids i)
  al : L5.RefAt w a g 2 h.al
  dk : L3.IsRef w r h.dk fr
  gen : 0 ≤ h.gen ∧ h.gen ≤ 1152921504606846976
  len : 2 + h.al.length = h.dk.old.length
  tab : L4.Tab w
  pos : 0 < q ∧ 0 < a ∧ 0 < g ∧ ∀ x ∈ fr, 0 < x
def rfoot (q a g : Nat) (fr : List Nat) : List Nat := q :: a :: g :: fr

theorem ref_kinds {w : World} {r : Nat} {m : L3.Dk} {fr : List Nat} (h : L3.IsRef w r m fr) {x : Nat} (hx : x ∈ fr) : Kd w x 66 ∨ Kd w x 9 ∨ Kd w x 164 := by
  obtain ⟨ov, pv, h, rfl⟩ := h
  simp [L3.rfOf] at hx
  rcases hx with rfl | hx | hx
  · exact .inl ⟨_, h.blk⟩
  · exact .inr (.inl (L3.ownsRow_kind h.old hx))
  · exact .inr (.inr (L3.ownsRow_kind h.op hx))

variable {w w' : World} {q r : Nat} {h : Hp} {a g : Nat} {fr : List Nat} {kv : List Value}
theorem RhAt.kq (H : RhAt w q r h a g fr kv) : Kd w q 74 := ⟨_, H.blk⟩
theorem RhAt.ka (H : RhAt w q r h a g fr kv) : Kd w a 143 := ⟨_, H.al.blk⟩
theorem RhAt.kg (H : RhAt w q r h a g fr kv) : Kd w g 157 := H.al.kin
theorem RhAt.kinds (H : RhAt w q r h a g fr kv) : ∀ x ∈ rfoot q a g fr, ∃ t : TypeId, t ∈ [74, 143, 157, 66, 9, 164] ∧ Kd w x t := by
  intro x hx
  simp only [rfoot, List.mem_cons] at hx
  rcases hx with rfl | rfl | rfl | hx
  · exact ⟨74, by simp, H.kq⟩
  · exact ⟨143, by simp, H.ka⟩
  · exact ⟨157, by simp, H.kg⟩
  · rcases ref_kinds H.dk hx with h1 | h1 | h1
    · exact ⟨66, by simp, h1⟩
    · exact ⟨9, by simp, h1⟩
    · exact ⟨164, by simp, h1⟩
theorem RhAt.row (H : RhAt w q r h a g fr kv) {v : Value} {l : List Int} (hv : Ints w v l) {b : Nat} (hb : v.ownBlock = some b) : b ∉ rfoot q a g fr := by
  intro hx
  obtain ⟨t, ht, hk⟩ := H.kinds b hx
  have := hk.one (hv.kd hb)
  subst this
  exact absurd ht (by decide)
theorem RhAt.qlt (H : RhAt w q r h a g fr kv) : q < w.heap.size := (Array.getElem?_eq_some_iff.1 H.blk).1
theorem RhAt.lt (H : RhAt w q r h a g fr kv) : ∀ x ∈ rfoot q a g fr, x < w.heap.size := by
  intro x hx
  obtain ⟨t, _, cs, hk⟩ := H.kinds x hx
  exact (Array.getElem?_eq_some_iff.1 hk).1
theorem RhAt.zero (H : RhAt w q r h a g fr kv) : 0 ∉ rfoot q a g fr := by
  intro hx
  simp only [rfoot, List.mem_cons] at hx
  obtain ⟨h1, h2, h3, h4⟩ := H.pos
  rcases hx with e | e | e | e
  · omega
  · omega
  · omega
  · exact absurd (h4 0 e) (by omega)
theorem RhAt.qa (H : RhAt w q r h a g fr kv) : q ≠ a := fun e => by have := H.kq.one (e ▸ H.ka); exact absurd this (by decide)
theorem RhAt.qg (H : RhAt w q r h a g fr kv) : q ≠ g := fun e => by have := H.kq.one (e ▸ H.kg); exact absurd this (by decide)
theorem RhAt.qf (H : RhAt w q r h a g fr kv) : q ∉ fr := fun hx => by
  rcases ref_kinds H.dk hx with h1 | h1 | h1 <;> exact absurd (H.kq.one h1) (by decide)
theorem RhAt.af (H : RhAt w q r h a g fr kv) : a ∉ fr := fun hx => by
  rcases ref_kinds H.dk hx with h1 | h1 | h1 <;> exact absurd (H.ka.one h1) (by decide)
theorem RhAt.gf (H : RhAt w q r h a g fr kv) : g ∉ fr := fun hx => by
  rcases ref_kinds H.dk hx with h1 | h1 | h1 <;> exact absurd (H.kg.one h1) (by decide)

theorem RhAt.cell0 (H : RhAt w q r h a g fr kv) : w.cell? ⟨q, 0, none⟩ = some (.pointer (some ⟨r, 0, none⟩)) := by simp [World.cell?, H.blk]
theorem RhAt.cell1 (H : RhAt w q r h a g fr kv) : w.cell? ⟨q, 1, none⟩ = some (.pointer (some ⟨a, 0, none⟩)) := by simp [World.cell?, H.blk]
theorem RhAt.cell2 (H : RhAt w q r h a g fr kv) : w.cell? ⟨q, 2, none⟩ = some (.int .i64 h.gen) := by simp [World.cell?, H.blk]
theorem RhAt.cellK (H : RhAt w q r h a g fr kv) {i : Nat} {v : Value} (hv : kv[i]? = some v) : w.cell? ⟨q, 3 + i, none⟩ = some v := by
  have e : 3 + i = i + 1 + 1 + 1 := by omega
  simp [World.cell?, H.blk, e, hv]
theorem RhAt.free (H : RhAt w q r h a g fr kv) (i : Nat) : w.frozen? ⟨q, i, none⟩ = false := by simp [World.frozen?, H.blk]
theorem RhAt.kidAt (H : RhAt w q r h a g fr kv) {i : Nat} (hi : i < 4096) : ∃ v, kv[i]? = some v ∧ Ints w v (h.kids i) := by
  have : i < kv.length := by rw [H.kl]; exact hi
  exact ⟨_, List.getElem?_eq_getElem this, H.kid i _ (List.getElem?_eq_getElem this)⟩

/-- rows stay where what turned is no row -/
theorem RhAt.rows (H : RhAt w q r h a g fr kv) {fq : List Nat} (hm : Moves fq w w') (hr : ∀ x ∈ fq, x < w.heap.size → ¬ Kd w x 3) : ∀ i v, kv[i]? = some v → Ints w' v (h.kids i) := by
  intro i v hv
  have hI := H.kid i v hv
  exact hI.same (fun b hb => hm.block b (hI.lt b hb) (fun hx => hr b hx (hI.lt b hb) (hI.kd hb)))
theorem RhAt.keep {fq : List Nat} (H : RhAt w q r h a g fr kv) (hm : Moves fq w w') (hd : ∀ x ∈ fq, x ∉ rfoot q a g fr) (h0 : 0 ∉ fq) (hr : ∀ x ∈ fq, x < w.heap.size → ¬ Kd w x 3) : RhAt w' q r h a g fr kv := by
  have hn : ∀ x ∈ rfoot q a g fr, x ∉ fq := fun x hx hq => hd x hq hx
  exact ⟨(hm.block q H.qlt (hn q (by simp [rfoot]))).trans H.blk, H.kl, H.rows hm hr, H.al.keep hm (hn a (by simp [rfoot])) (hn g (by simp [rfoot])), H.dk.keep (mv35 hm) (fun x hx => hn x (by simp [rfoot, hx])), H.gen, H.len, tab_keep H.tab hm h0, H.pos⟩
theorem RhAt.grow (H : RhAt w q r h a g fr kv) (hb : Below w.heap.size w w') : RhAt w' q r h a g fr kv :=
  H.keep (L5.Moves.of_below [] hb) (fun _ hx => absurd hx List.not_mem_nil) List.not_mem_nil (fun _ hx => absurd hx List.not_mem_nil)
/-- no block of the heap's own is a row -/
theorem RhAt.noRow (H : RhAt w q r h a g fr kv) : ∀ x ∈ rfoot q a g fr, ¬ Kd w x 3 := by
  intro x hx h3
  obtain ⟨t, ht, hk⟩ := H.kinds x hx
  have := hk.one h3
  subst this
  exact absurd ht (by decide)
/-- the allocator has turned -/
theorem RhAt.alloc (H : RhAt w q r h a g fr kv) {l : List L5.St} (hm : Moves [g] w w') (ha : L5.RefAt w' a g 2 l) (hl : l.length = h.al.length) : RhAt w' q r { h with al := l } a g fr kv := by
  have h0 : 0 ∉ [g] := by have := H.pos.2.2.1; simp; omega
  exact ⟨(hm.block q H.qlt (by have := H.qg; simp; exact this)).trans H.blk, H.kl, H.rows hm (fun x hx _ => H.noRow x (by simp at hx; simp [rfoot, hx])), ha, H.dk.keep (mv35 hm) (fun x hx hq => H.gf (by simp at hq; rw [← hq]; exact hx)), H.gen, by show 2 + l.length = _; rw [hl]; exact H.len, tab_keep H.tab hm h0, H.pos⟩
/-- the disk has turned -/
theorem RhAt.disk (H : RhAt w q r h a g fr kv) {m : L3.Dk} (hm : L3.RTurned w w' r m fr) (hl : m.old.length = h.dk.old.length) : ∃ fr', RhAt w' q r { h with dk := m } a g fr' kv ∧ Moves fr w w' ∧ ∀ x ∈ fr', x ∈ fr ∨ w.heap.size ≤ x := by
  obtain ⟨fr', hd', hm', hf⟩ := hm
  have hm' := mv53 hm'
  have h0 : 0 ∉ fr := fun hx => absurd (H.pos.2.2.2 0 hx) (by omega)
  refine ⟨fr', ⟨(hm'.block q H.qlt H.qf).trans H.blk, H.kl, H.rows hm' (fun x hx _ => H.noRow x (by simp [rfoot, hx])), H.al.keep hm' H.af H.gf, hd', H.gen, by show _ = m.old.length; rw [hl]; exact H.len, tab_keep H.tab hm' h0, H.pos.1, H.pos.2.1, H.pos.2.2.1, fun x hx => ?_⟩, hm', hf⟩
  rcases hf x hx with h1 | h1
  · exact H.pos.2.2.2 x h1
  · have := H.qlt; omega
/-- a store of kids -/
theorem RhAt.setK (H : RhAt w q r h a g fr kv) {i : Nat} {v : Value} {l : List Int} (hv : Ints w v l) : RhAt (w.setCell ⟨q, 3 + i, none⟩ v) q r { h with kids := setK h.kids i l } a g fr (kv.set i v) := by
  have hm : Moves [q] w (w.setCell ⟨q, 3 + i, none⟩ v) := L5.Moves.set w q (3 + i) _ (by simp)
  have h0 : 0 ∉ [q] := by have := H.pos.1; simp; omega
  have hrw : ∀ (u : Value) (l : List Int), Ints w u l → Ints (w.setCell ⟨q, 3 + i, none⟩ v) u l := fun u l hu => hu.same (fun b hb => hm.block b (hu.lt b hb) (fun hx => H.noRow b (by simp at hx; simp [rfoot, hx]) (hu.kd hb)))
  refine ⟨?_, by rw [List.length_set]; exact H.kl, fun j u hu => ?_, H.al.keep hm (by have := H.qa; simp; exact fun e => this e.symm) (by have := H.qg; simp; exact fun e => this e.symm), H.dk.keep (mv35 hm) (fun x hx hq => H.qf (by simp at hq; rw [← hq]; exact hx)), H.gen, H.len, tab_keep H.tab hm h0, H.pos⟩
  · have e : 3 + i = i + 1 + 1 + 1 := by omega
    simp [World.setCell, Array.getElem?_modify, H.blk, e]
  · rw [List.getElem?_set] at hu
    unfold Go.Proofs.YtdelobaiicoogaaGreatDoor.setK
    simp only
    split at hu
    · rename_i e
      split at hu
      · cases hu
        rw [if_pos e.symm]
        exact hrw _ _ hv
      · cases hu
    · rename_i e
      rw [if_neg (fun e' => e e'.symm)]
      exact hrw _ _ (H.kid j u hu)
def IsRh (w : World) (q : Nat) (h : Hp) (F : List Nat) : Prop := ∃ r a g fr kv, RhAt w q r h a g fr kv ∧ F = rfoot q a g fr
def RhTurned (w w' : World) (q : Nat) (h : Hp) (F : List Nat) : Prop := ∃ F', IsRh w' q h F' ∧ Moves F w w' ∧ ∀ x ∈ F', x ∈ F ∨ w.heap.size ≤ x
variable {F : List Nat}
theorem IsRh.lt (H : IsRh w q h F) : ∀ x ∈ F, x < w.heap.size := by
  obtain ⟨r, a, g, fr, kv, H, rfl⟩ := H
  exact H.lt
theorem IsRh.zero (H : IsRh w q h F) : 0 ∉ F := by
  obtain ⟨r, a, g, fr, kv, H, rfl⟩ := H
  exact H.zero
theorem IsRh.tab (H : IsRh w q h F) : L4.Tab w := by
  obtain ⟨r, a, g, fr, kv, H, rfl⟩ := H
  exact H.tab
theorem IsRh.grow (H : IsRh w q h F) (hb : Below w.heap.size w w') : IsRh w' q h F := by
  obtain ⟨r, a, g, fr, kv, H, rfl⟩ := H
  exact ⟨r, a, g, fr, kv, H.grow hb, rfl⟩
theorem IsRh.ints (H : IsRh w q h F) {v : Value} {l : List Int} (hv : Ints w v l) (hm : Moves F w w') : Ints w' v l := by
  obtain ⟨r, a, g, fr, kv, H, rfl⟩ := H
  exact hv.same (fun b hb => hm.block b (hv.lt b hb) (H.row hv hb))
theorem IsRh.stays (H : IsRh w q h F) (hb : Below w.heap.size w w') : RhTurned w w' q h F := ⟨F, H.grow hb, L5.Moves.of_below _ hb, fun _ hx => .inl hx⟩
theorem RhTurned.then {w1 w2 : World} {h2 : Hp} {F1 : List Nat} (hm : Moves F w w1) (hf : ∀ x ∈ F1, x ∈ F ∨ w.heap.size ≤ x) (k : RhTurned w1 w2 q h2 F1) : RhTurned w w2 q h2 F := by
  obtain ⟨F2, k1, k2, k3⟩ := k
  refine ⟨F2, k1, hm.trans k2 hf, fun x hx => ?_⟩
  rcases k3 x hx with h1 | h1
  · exact hf x h1
  · exact .inr (Nat.le_trans hm.size h1)
/-! beside the program's -/
theorem heap_kinds {w : World} {p d : Nat} {h : Hp} {c : Nat} {F : List Nat} (H : IsHeap w p d h c F) : ∀ x ∈ F, (∃ es cl, w.heap[x]? = some (.map es cl)) ∨ ∃ t : TypeId, t ∈ [86, 155, 210, 225] ∧ Kd w x t := by
  obtain ⟨a, b, kb, fd, kf, H, rfl⟩ := H
  intro x hx
  simp only [foot, List.mem_cons] at hx
  rcases hx with rfl | rfl | rfl | rfl | hx
  · exact .inr ⟨86, by simp, _, H.blk⟩
  · exact .inr ⟨155, by simp, _, H.al.blk⟩
  · exact .inl H.al.map.kind
  · exact .inl H.km.kind
  · rcases disk_kinds H.dk hx with h1 | h1 | h1
    · exact .inl h1
    · exact .inr ⟨210, by simp, h1⟩
    · exact .inr ⟨225, by simp, h1⟩
theorem heap_noRow {w : World} {p d : Nat} {h : Hp} {c : Nat} {F : List Nat} (H : IsHeap w p d h c F) : ∀ x ∈ F, ¬ Kd w x 3 := by
  intro x hx ⟨cs, h3⟩
  rcases heap_kinds H x hx with ⟨es, cl, h1⟩ | ⟨t, ht, hk⟩
  · rw [h3] at h1; cases h1
  · have := hk.one ⟨cs, h3⟩
    subst this
    exact absurd ht (by decide)
theorem apart {w : World} {p d : Nat} {h h' : Hp} {c : Nat} {F Fq : List Nat} (H : IsHeap w p d h c F) (R : IsRh w q h' Fq) : ∀ x ∈ F, x ∉ Fq := by
  obtain ⟨r, a, g, fr, kv, R, rfl⟩ := R
  intro x hx hq
  obtain ⟨u, hu, cs, hk⟩ := R.kinds x hq
  rcases heap_kinds H x hx with ⟨es, cl, h1⟩ | ⟨t, ht, hk2⟩
  · rw [hk] at h1; cases h1
  · have := hk2.one ⟨cs, hk⟩
    subst this
    simp only [List.mem_cons, List.not_mem_nil, or_false] at ht
    rcases ht with rfl | rfl | rfl | rfl <;> exact absurd hu (by decide)
/-- the document's heap stays while the program's turns -/
theorem IsRh.other {p d : Nat} {h' : Hp} {c : Nat} {Fp : List Nat} (R : IsRh w q h F) (H : IsHeap w p d h' c Fp) (hm : Moves Fp w w') : IsRh w' q h F := by
  have ha := apart H R
  obtain ⟨r, a, g, fr, kv, R, rfl⟩ := R
  exact ⟨r, a, g, fr, kv, R.keep hm ha H.zero (fun x hx _ => heap_noRow H x hx), rfl⟩
/-- and the other way -/
theorem IsHeap.other {p d : Nat} {h' : Hp} {c : Nat} {Fp : List Nat} (H : IsHeap w p d h' c Fp) (R : IsRh w q h F) (hm : Moves F w w') : IsHeap w' p d h' c Fp := by
  have ha := apart H R
  have hz := R.zero
  obtain ⟨r, a, g, fr, kv, R, rfl⟩ := R
  obtain ⟨a', b', kb, fd, kf, H, rfl⟩ := H
  refine ⟨a', b', kb, fd, kf, H.keep hm (fun x hx hq => ha x hq hx) hz (fun j hj => (H.kid j hj).same (fun v hv b hb => ?_)), rfl⟩
  have hI : Ints w v (h'.kids j) := by have := H.kid j hj; rw [hv] at this; exact this
  exact hm.block b (hI.lt b hb) (R.row hI hb)
end Go.Proofs.YtdelobaiicoogaaGreatDoor

/- The walk through a tree: come. -/
namespace Go.Proofs.YtdelobaiicoogaaGreatDoor
open Go.ChangeShapes Go.WideShapes Go.ChangeAt Go.RowKit
variable {w w' : World} {p d : Nat} {h : Hp} {c : Nat} {F : List Nat}

/-- how an empty struct in a map reads -/
def stR : Rdg
  | .agg cs => if cs.size = 0 then some (.agg [], []) else none
  | _ => none
theorem stR_one {u : Value} {d : DataW Unit} {ps : List MemPlace} (h : stR u = some (d, ps)) : u = .agg #[] := by
  unfold stR at h
  split at h
  · split at h
    · rename_i e
      rw [Array.size_eq_zero_iff.1 e]
    · cases h
  · cases h
theorem zero260 (w : World) : (zeroValue 227).run Tryz.prog w = .ok (.agg #[]) w := by kernel_rfl
/-- is a key in a set? -/
theorem Vm.has {b k : Nat} {f : Nat → Option Value} (hm : Vm stR w b k f) {n : Int} (h0 : 0 ≤ n) (h1 : n < 4096) :
    (Instr.lookup 103 (.map (some b)) (.int .i64 n) true).run Tryz.prog w = .ok (.tuple #[.agg #[], .bool (f n.toNat).isSome]) w := by
  obtain ⟨D, hown, hr⟩ := hm
  obtain ⟨v, ps, hrun, hv⟩ := hown.look_ok law3 Tryz.underlying103 (zero260 w) (zd := .agg []) (zp := []) rfl (key3 h0 h1)
  have e : ((n.toNat : Nat) : Int) = n := Int.toNat_of_nonneg h0
  have h2 := (hr n.toNat (by omega)).1
  rw [e] at h2
  rw [hrun, h2]
  have hv' : v = .agg #[] := stR_one hv
  rw [hv']
/-- a heap stays where what turned is none of its blocks and no row -/
theorem IsHeap.aside {fq : List Nat} (H : IsHeap w p d h c F) (hm : Moves fq w w') (hd : ∀ x ∈ fq, x ∉ F) (h0 : 0 ∉ fq) (hr : ∀ x ∈ fq, x < w.heap.size → ¬ Kd w x 3) : IsHeap w' p d h c F := by
  obtain ⟨a, b, kb, fd, kf, H, rfl⟩ := H
  refine ⟨a, b, kb, fd, kf, H.keep hm hd h0 (fun j hj => (H.kid j hj).same (fun v hv g hg => ?_)), rfl⟩
  have hI : Ints w v (h.kids j) := by have := H.kid j hj; rw [hv] at this; exact this
  exact hm.block g (hI.lt g hg) (fun hx => hr g hx (hI.lt g hg) (hI.kd hg))
/-- a walk in memory -/
structure WalkAt (w : World) (b p mb : Nat) (err : Int) (k : Nat) (f : Nat → Option Value) : Prop where
  blk : w.heap[b]? = some (.cells #[.pointer (some ⟨p, 0, none⟩), .map (some mb), .int .i64 err] 105 (0, 0))
  met : Vm stR w mb k f
theorem WalkAt.cell0 {b p mb : Nat} {err : Int} {k : Nat} {f : Nat → Option Value} (H : WalkAt w b p mb err k f) : w.cell? ⟨b, 0, none⟩ = some (.pointer (some ⟨p, 0, none⟩)) := by simp [World.cell?, H.blk]
theorem WalkAt.cell1 {b p mb : Nat} {err : Int} {k : Nat} {f : Nat → Option Value} (H : WalkAt w b p mb err k f) : w.cell? ⟨b, 1, none⟩ = some (.map (some mb)) := by simp [World.cell?, H.blk]
theorem WalkAt.cell2 {b p mb : Nat} {err : Int} {k : Nat} {f : Nat → Option Value} (H : WalkAt w b p mb err k f) : w.cell? ⟨b, 2, none⟩ = some (.int .i64 err) := by simp [World.cell?, H.blk]
theorem WalkAt.lt {b p mb : Nat} {err : Int} {k : Nat} {f : Nat → Option Value} (H : WalkAt w b p mb err k f) : b < w.heap.size := (Array.getElem?_eq_some_iff.1 H.blk).1
theorem WalkAt.ne {b p mb : Nat} {err : Int} {k : Nat} {f : Nat → Option Value} (H : WalkAt w b p mb err k f) : b ≠ mb := by
  rintro rfl
  obtain ⟨es, cl, this⟩ := H.met.kind
  rw [H.blk] at this
  cases this
theorem WalkAt.grow {b p mb : Nat} {err : Int} {k : Nat} {f : Nat → Option Value} (H : WalkAt w b p mb err k f) (hb : Below w.heap.size w w') : WalkAt w' b p mb err k f := ⟨(hb.block b H.lt).trans H.blk, H.met.same (hb.block mb H.met.lt)⟩
def setF (f : Nat → Option Value) (n : Nat) : Nat → Option Value := fun i => if i = n then some (.agg #[]) else f i

theorem moves_new {W W' : World} {fq : List Nat} {P j : Nat} {u : Value} (hm : Moves fq W W') (hP : P = W.heap.size) : Moves fq W (W'.setCell ⟨P, j, none⟩ u) :=
  ⟨hm.os, hm.tape, hm.output, by have := hm.size; simpa [World.setCell] using this, fun k hk hn => (Below.heap_setCell _ ⟨P, j, none⟩ _ _ (show k ≠ P by omega)).trans (hm.block k hk hn)⟩
theorem WalkAt.set {b mb k P : Nat} {err : Int} {f : Nat → Option Value} {L : Bool} {ai ak : Option Addr} {il ci kl ck : Nat} (H : WalkAt w b p mb err k f) (hP : L6.Nblk w P L ai il ci ak kl ck) (j : Nat) (u : Value) : WalkAt (w.setCell ⟨P, j, none⟩ u) b p mb err k f := by
  have h1 : b ≠ P := by
    rintro rfl
    have := H.blk
    unfold L6.Nblk at hP
    rw [hP] at this
    injection this with this
    injection this with _ this
    exact absurd this (by decide)
  have h2 : mb ≠ P := by
    rintro rfl
    obtain ⟨es, cl, h4⟩ := H.met.kind
    unfold L6.Nblk at hP
    rw [hP] at h4
    cases h4
  exact ⟨(Below.heap_setCell _ ⟨P, j, none⟩ _ _ h1).trans H.blk, H.met.same (Below.heap_setCell _ ⟨P, j, none⟩ _ _ h2)⟩
theorem IsHeap.set {P : Nat} {L : Bool} {ai ak : Option Addr} {il ci kl ck : Nat} (H : IsHeap w p d h c F) (hF : P ∉ F) (hP : L6.Nblk w P L ai il ci ak kl ck) (j : Nat) (u : Value) : IsHeap (w.setCell ⟨P, j, none⟩ u) p d h c F := by
  refine H.aside (fq := [P]) (L5.Moves.set w P j u (by simp)) (fun y hy => by simp at hy; rw [hy]; exact hF) ?_ (fun y hy hyl h3 => ?_)
  · simp
    intro e
    subst e
    have := H.tab 0 (by omega)
    unfold L6.Nblk at hP
    simp [World.cell?, hP] at this
  · simp at hy
    subst hy
    obtain ⟨cs, h3⟩ := h3
    unfold L6.Nblk at hP
    rw [h3] at hP
    injection hP with hP
    injection hP with _ hP
    exact absurd hP (by decide)
theorem come_mid {W0 w2 : World} {b mb k P : Nat} {err : Int} {f g : Nat → Option Value} (hW1 : WalkAt W0 b p mb err k f) (H : IsHeap W0 p d h c F) (hP : L6.Nblk W0 P false none 0 0 none 0 0) (hF : mb ∉ F) (h0 : 0 < mb) (hs2 : Vm stR w2 mb (k + 1) g) (hg2 : W0.grownBy w2 (some mb)) :
    WalkAt w2 b p mb err (k + 1) g ∧ IsHeap w2 p d h c F ∧ L6.Nblk w2 P false none 0 0 none 0 0 ∧ Moves [mb] W0 w2 := by
  have hmv : Moves [mb] W0 w2 := L5.Moves.of_grown hg2 (fun k hk => by cases hk; simp)
  obtain ⟨es, cl, h4⟩ := hW1.met.kind
  refine ⟨⟨(hmv.block b hW1.lt (by have := hW1.ne; simp; exact this)).trans hW1.blk, hs2⟩, H.aside hmv (fun y hy => by simp at hy; rw [hy]; exact hF) (by simp; omega) (fun y hy hyl h3 => ?_), (hmv.block _ hP.lt (fun hx => ?_)).trans hP, hmv⟩
  · simp at hy
    subst hy
    obtain ⟨cs, h3⟩ := h3
    rw [h3] at h4
    cases h4
  · simp at hx
    subst hx
    unfold L6.Nblk at hP
    rw [h4] at hP
    cases hP
set_option maxHeartbeats 2000000 in
set_option maxRecDepth 20000 in
/-- a place that wasn't met yet -/
theorem come_new (x : Nat) (hx : x < 4096) (b mb k : Nat) (err : Int) (f : Nat → Option Value) (w : World) (H : IsHeap w p d h c F) (hW : WalkAt w b p mb err k f) (hf : f x = none) (hF : mb ∉ F) (h0 : 0 < mb) (hk : k ≤ 100000) :
    Calls Tryz.prog 70 #[.pointer (some ⟨b, 0, none⟩), .int .i64 (x : Int)] w fun e w' => ∃ (ai ak : Option Addr) (ci ck : Nat), e = .returned (.tuple #[.agg #[.bool (getR h (x : Int)).1.leaf, .slice ai (getR h (x : Int)).1.its.length ci, .slice ak (getR h (x : Int)).1.kds.length ck], .int .i64 (getR h (x : Int)).2]) ∧
      L6.Has w' (getR h (x : Int)).1 ai ak ∧ ((getR h (x : Int)).1.its.length ≤ ci ∧ (getR h (x : Int)).1.kds.length ≤ ck) ∧ WalkAt w' b p mb err (k + 1) (setF f x) ∧ Moves [mb] w w' ∧ IsHeap w' p d h c F := by
  have HP := hide (L6.Nblk.new w false none none 0 0 0 0)
  have hb0 := below_alloc w (.cells #[.bool false, .slice none 0 0, .slice none 0 0] 38)
  have hb1 := below_then hb0 (below_alloc (w.alloc (.cells #[.bool false, .slice none 0 0, .slice none 0 0] 38)) (.cells #[] 227))
  have hW1 := hW.grow hb1
  have hl0 := (hW.grow hb0).met.has (n := (x : Int)) (by omega) (by omega)
  rw [show ((x : Int)).toNat = x from rfl, hf] at hl0
  have e0 := (hW.grow hb0).cell1
  have HW := hide hW
  have HW1 := hide hW1
  have HH := hide (H.grow hb1)
  have HB1 := hide hb1
  have HF := hide hF
  have H0 := hide h0
  have HK := hide hk
  have HX := hide hx
  have HLF := hide H.lt
  have e1 := hW1.cell1
  have HP1 := hide ((unhide HP).below (below_alloc (w.alloc (.cells #[.bool false, .slice none 0 0, .slice none 0 0] 38)) (.cells #[] 227)))
  clear hb0 hb1 hW hW1 H hf hF h0 hk hx HP
  go_enter Tryz.func70, Tryz.ntmps70
  go_wp2_with (first | (at_mapUpdate; refine wp_kstore (R := stR) (u := .agg #[]) (b := mb) (n := (x : Int)) Tryz.underlying103 rfl _ _ _ rfl rfl rfl rfl (unhide HW1).met (by omega) (by have := unhide HX; omega) rfl (by unfold maxLen; have := unhide HK; omega) ?_; intro w2 hs2 hg2; have hmid := come_mid (unhide HW1) (unhide HH) (unhide HP1) (unhide HF) (unhide H0) hs2 hg2; have g0 := hmid.1.cell0; have HY := hide hmid; clear hs2 hg2 hmid) | fail)
  have HW2 : Hid (WalkAt w2 b p mb err (k + 1) (setF f x)) := (unhide HY).1
  have HH2 := hide (unhide HY).2.1
  have HP2 := hide (unhide HY).2.2.1
  have HM := hide ((L5.Moves.of_below [mb] (unhide HB1)).then (unhide HY).2.2.2)
  clear HY HW1 HH HP1 HB1 e0 e1 hl0
  obtain ⟨P, hP⟩ : ∃ x, x = w.heap.size := ⟨_, rfl⟩
  rw [← hP] at HP2 ⊢
  have HPE := hide hP
  clear hP
  refine (hget_anyC (x : Int) (by unfold L5.I64; have := unhide HX; omega) w2 (unhide HH2)).mono ?_
  rintro e w3 ⟨ai, ak, ci, ck, rfl, hh3, hcp, hb3⟩
  have hp3 := (unhide HP2).below hb3
  have z0 := hp3.cell0
  have z1 := hp3.cell1
  have z2 := hp3.cell2
  have f0 := hp3.free 0
  have f1 := hp3.free 1
  have f2 := hp3.free 2
  have HP3 := hide hp3
  have HH3 := hide hh3
  have HCP := hide hcp
  have HW3 := hide ((unhide HW2).grow hb3)
  have HI3 := hide ((unhide HH2).grow hb3)
  have HM3 := hide ((unhide HM).then (L5.Moves.of_below _ hb3))
  clear hb3 hp3 hh3 hcp g0
  generalize hT : getR h (x : Int) = T at *
  have HTE := hide hT
  clear hT
  obtain ⟨n, E⟩ := T
  simp only at HH3 HCP ⊢
  go_wp2
  have hst := (unhide HP3).store n.leaf ai n.its.length ci ak n.kds.length ck (unhide HH3)
  have hlt := (unhide HP3).lt
  refine bodyPost_ret (v := .tuple #[.agg #[.bool n.leaf, .slice ai n.its.length ci, .slice ak n.kds.length ck], .int .i64 E]) ?_ rfl ?_
  · rw [results_cell_tmp rfl]
    go_simp
  · have hm4 : Moves [mb] w (((w3.setCell ⟨P, 0, none⟩ (.bool n.leaf)).setCell ⟨P, 1, none⟩ (.slice ai n.its.length ci)).setCell ⟨P, 2, none⟩ (.slice ak n.kds.length ck)) := moves_new (moves_new (moves_new (unhide HM3) (unhide HPE)) (unhide HPE)) (unhide HPE)
    rw [unhide HTE]
    refine ⟨ai, ak, ci, ck, rfl, hst.2, unhide HCP, (((unhide HW3).set (unhide HP3) 0 _).set ((unhide HP3).set0 n.leaf) 1 _).set (((unhide HP3).set0 n.leaf).set1 ai n.its.length ci) 2 _, hm4, ?_⟩
    have hF3 : P ∉ F := fun hx => by have := (unhide HLF) P hx; have := unhide HPE; omega
    exact (((unhide HI3).set hF3 (unhide HP3) 0 _).set hF3 ((unhide HP3).set0 n.leaf) 1 _).set hF3 (((unhide HP3).set0 n.leaf).set1 ai n.its.length ci) 2 _
end Go.Proofs.YtdelobaiicoogaaGreatDoor
