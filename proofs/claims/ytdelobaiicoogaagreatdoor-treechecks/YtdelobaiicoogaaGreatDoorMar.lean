/- Texts that the proof needs, one behind the other. -/
import Derived.Test.YtdelobaiicoogaaGreatDoorMaq
import Derived.Test.YtdelobaiicoogaaGreatDoorMaj
import Derived.Test.YtdelobaiicoogaaGreatDoorMap
/- slices.Concat of items. -/
namespace Go.Proofs.YtdelobaiicoogaaGreatDoor
open Go.ChangeShapes Go.WideShapes Go.ChangeAt Go.RowKit

theorem app_row {ops : Array Oper} {rest : List Oper} {o : Oper} {a : Act} {Q : Exit → Act → World → Prop} {B : Nat} {w : World} {v : Value} {l ys : List L6.It} {ad : Option Addr} {cap : Nat}
    (hwant : Region.wanted o (yielded ops a.tmps) = true) (s x : Operand) (ho : o.op = .call { callee := .builtin .append, args := #[s, x], argTypes := #[35, 35] })
    (hs : a.eval s = v) (hx : a.eval x = .slice ad ys.length cap) (hown : OwnI B w v l) (hrow : L6.Row itV w ad ys) (hl : l.length + ys.length ≤ 1000000) (hB : B ≤ w.heap.size)
    (h : ∀ a' cap' w', OwnI B w' (.slice a' (l ++ ys).length cap') (l ++ ys) → w.grownBy w' v.ownBlock → wpList Tryz.prog ops Q rest (a.put o.dst (.slice a' (l ++ ys).length cap')) w') :
    wpList Tryz.prog ops Q (o :: rest) a w := by
  obtain ⟨v', w', hr, r1, r2, r3⟩ := run_app_row B o.type w v l ys ad cap hown hrow hl hB
  obtain ⟨a', cap', rfl⟩ := r1.form
  refine BigFrame.wpList_want hwant fun K hK => ?_
  unfold Oper.wp execOp
  simp only [ho, resolve, invoke, builtin, Sem.run_bind, Sem.run_pure, Result.andThen_ok, List.map_toArray, List.map_cons, List.map_nil, hs, hx, hr]
  exact hK _ _ (h a' cap' w' r1 r2)
/-- a part that is put to others: where it lies, its room, what it has -/
abbrev Pt3 := Option Addr × Nat × List L6.It
def lens (ps : List Pt3) : Nat := (ps.map (fun x => x.2.2.length)).sum
def cat (ps : List Pt3) : List L6.It := ps.flatMap (fun x => x.2.2)
theorem cat_len (ps : List Pt3) : (cat ps).length = lens ps := by
  induction ps with
  | nil => rfl
  | cons x t ih =>
    unfold cat lens at *
    simp [List.flatMap_cons, ih]
theorem take_next {α : Type} {l : List α} {k : Nat} (hk : k < l.length) : l.take (k + 1) = l.take k ++ [l[k]] := by
  rw [List.take_add_one, List.getElem?_eq_getElem hk]
  rfl
theorem lens_take (ps : List Pt3) (k : Nat) (hk : k < ps.length) : lens (ps.take (k + 1)) = lens (ps.take k) + ps[k].2.2.length := by
  unfold lens
  rw [take_next hk, List.map_append, List.sum_append]
  simp only [List.map_cons, List.map_nil, List.sum_cons, List.sum_nil, Nat.add_zero]
theorem cat_take (ps : List Pt3) (k : Nat) (hk : k < ps.length) : cat (ps.take (k + 1)) = cat (ps.take k) ++ ps[k].2.2 := by
  unfold cat
  rw [take_next hk, List.flatMap_append]
  simp only [List.flatMap_cons, List.flatMap_nil, List.append_nil]
theorem lens_le (ps : List Pt3) (k : Nat) : lens (ps.take k) ≤ lens ps := by
  unfold lens
  have h : ps.map (fun x => x.2.2.length) = (ps.take k).map (fun x => x.2.2.length) ++ (ps.drop k).map (fun x => x.2.2.length) := by rw [← List.map_append, List.take_append_drop]
  rw [h, List.sum_append]
  omega

set_option maxHeartbeats 4000000 in
set_option maxRecDepth 20000 in
theorem concat_any (ps : List Pt3) (b cap : Nat) (w : World) (hc : ∀ i x, ps[i]? = some x → w.cell? ⟨b, i, none⟩ = some (.slice x.1 x.2.2.length x.2.1) ∧ L6.Row itV w x.1 x.2.2) (hl : lens ps ≤ 100000) (hp : ps.length ≤ 1000) :
    Calls Tryz.prog 48 #[.slice (some ⟨b, 0, none⟩) ps.length cap] w fun e w' => ∃ v, e = .returned v ∧ OwnI w.heap.size w' v (cat ps) ∧ Below w.heap.size w w' := by
  have HC := hide hc
  have HL := hide hl
  clear hc hl
  go_enter Tryz.func48, Tryz.ntmps48
  go_wp2
  go_loopw [3, 11] (fun s t wr => ∃ k : Nat, k ≤ ps.length ∧ s = .int .i64 ((lens (ps.take k) : Nat) : Int) ∧ t = .int .i64 (k : Int) ∧ wr = w) (fun s t _ => ps.length - (intOf t).toNat)
  case atStart => exact ⟨0, Nat.zero_le _, rfl, rfl, rfl⟩
  case round =>
    obtain ⟨k, hk, rfl, rfl, hw⟩ := hrel
    have hw := hw.symm
    subst hw
    have hle := lens_le ps k
    by_cases hlt : k < ps.length
    · obtain ⟨c0, _⟩ := unhide HC k _ (List.getElem?_eq_getElem hlt)
      have hlt' : (k : Int) < (ps.length : Int) := by omega
      have hst := lens_take ps k hlt
      have hle2 := lens_le ps (k + 1)
      have hL := unhide HL
      generalize hT : lens (ps.take k) = T at *
      generalize hT2 : lens (ps.take (k + 1)) = T2 at *
      have HT2 := hide hT2
      clear hT hT2
      generalize ps[k] = x at *
      obtain ⟨ad, cp, ys⟩ := x
      simp only at c0 hst
      have hw1 : IntKind.i64.wrap ((T : Int) + (ys.length : Int)) = ((T + ys.length : Nat) : Int) := by rw [IntKind.wrap_i64]; omega
      have hnn : ¬ ((T + ys.length : Nat) : Int) < 0 := by omega
      have HST := hide hst
      clear hst
      go_wp2
      go_roundw
      case rel => exact ⟨k + 1, by omega, by rw [unhide HT2, unhide HST]; first | rfl | rw [Int.natCast_add] | go_num, by go_num, by trivial⟩
      case measure => simp [intOf]; omega
    · obtain rfl : k = ps.length := by omega
      have hlt' : ¬ (ps.length : Int) < (ps.length : Int) := by omega
      rw [List.take_length]
      clear hlt hle
      go_wp2_with (go_at_call 86; refine (grow_any (lens ps) (by have := unhide HL; omega) _).mono ?_; rintro e w1 ⟨v, rfl, ho1, hb1⟩; have HO1 := hide ho1; have HB1 := hide hb1; clear ho1 hb1)
      go_loopw [6, 27] (fun s t wr => ∃ k : Nat, k ≤ ps.length ∧ t = .int .i64 (k : Int) ∧ OwnI w.heap.size wr s (cat (ps.take k)) ∧ Below w.heap.size w wr) (fun s t _ => ps.length - (intOf t).toNat)
      case atStart => exact ⟨0, Nat.zero_le _, rfl, unhide HO1, unhide HB1⟩
      case round =>
        clear HO1 HB1
        obtain ⟨k, hk, rfl, ho, hb⟩ := hrel
        by_cases hlt : k < ps.length
        · obtain ⟨c0, hrow⟩ := unhide HC k _ (List.getElem?_eq_getElem hlt)
          have hblt := World.block_lt_of_cell? _ _ c0
          have c0' := (hb.cell hblt).trans c0
          have hlt' : (k : Int) < (ps.length : Int) := by omega
          have hst := cat_take ps k hlt
          have hle := lens_le ps (k + 1)
          rw [← cat_len] at hle
          have hL := unhide HL
          have HRW := hide (L6.Row.grow hrow hb)
          generalize hT : cat (ps.take k) = T at *
          generalize hT2 : cat (ps.take (k + 1)) = T2 at *
          have HT2 := hide hT2
          clear hT hT2 c0 hrow hblt
          generalize ps[k] = x at *
          obtain ⟨ad, cp, ys⟩ := x
          simp only at c0' hst HRW
          rw [hst, List.length_append] at hle
          have HST := hide hst
          have HO := hide ho
          have HB := hide hb
          have HLE := hide hle
          obtain ⟨a0, cap0, rfl⟩ := ho.form
          clear hst ho hb hle
          go_wp2_with (at_builtin; refine app_row (B := w.heap.size) (l := T) (ys := ys) rfl _ _ rfl rfl rfl (unhide HO) (unhide HRW) (by have := unhide HLE; have := unhide HL; omega) (unhide HB).size ?_; intro a5 cap5 w5 ho5 hg5; have HY := hide (And.intro ho5 hg5); clear ho5 hg5)
          go_roundw
          case rel =>
            obtain ⟨ho5, hg5⟩ := unhide HY
            refine ⟨k + 1, by omega, by go_num, ?_, ?_⟩
            · rw [unhide HT2, unhide HST]
              rw [List.length_append] at ho5
              exact ho5
            · have hb := unhide HB
              exact hb.grown hg5 hb.size (fun g hg => (World.ownsRow.lt (unhide HO) g hg).1)
          case measure => simp [intOf]; omega
        · obtain rfl : k = ps.length := by omega
          rw [List.take_length] at ho
          have hlt' : ¬ (ps.length : Int) < (ps.length : Int) := by omega
          have HO := hide ho
          have HB := hide hb
          clear ho hb hlt
          go_wp2
          go_ret
          exact ⟨_, rfl, unhide HO, unhide HB⟩
end Go.Proofs.YtdelobaiicoogaaGreatDoor

/- What is read, once more: each slice has room for what it has. -/
namespace Go.Proofs.YtdelobaiicoogaaGreatDoor.L6
open Go.ChangeShapes Go.WideShapes Go.ChangeAt Go.RowKit
theorem OwnE.cap {β : Type} {sv : β → Value} {T : TypeId} {B : Nat} {w : World} {a : Option Addr} {n cap : Nat} {l : List (ByteArray × β)} (h : OwnE sv T B w (.slice a n cap) l) : l.length ≤ cap := by
  rcases h.2 with ⟨e, hn⟩ | ⟨g, cap', cur, e, _, _, hc, _⟩
  · rw [hn]; exact Nat.zero_le _
  · injection e with e1 e2 e3
    rw [e3]
    exact hc
def ReadSaidC (n : Nd) (w : World) (x : Ending) (w' : World) (r : Nat) : Prop := ∃ (ai ak : Option Addr) (ci ck : Nat), x = .returned (.agg #[.bool n.leaf, .slice ai n.its.length ci, .slice ak n.kds.length ck]) ∧ Has w' n ai ak ∧ (n.its.length ≤ ci ∧ n.kds.length ≤ ck) ∧ w.grownBy w' (some r)
def DecSaidC (T : Nd × Nat) (w : World) (x : Ending) (w' : World) : Prop := ∃ (ai ak : Option Addr) (ci ck : Nat), x = .returned (.tuple #[.agg #[.bool T.1.leaf, .slice ai T.1.its.length ci, .slice ak T.1.kds.length ck], .int .i64 (T.2 : Int)]) ∧ Has w' T.1 ai ak ∧ (T.1.its.length ≤ ci ∧ T.1.kds.length ≤ ck) ∧ Below w.heap.size w w'
set_option maxRecDepth 10000 in
set_option maxHeartbeats 2000000 in
theorem read_nodeC (r : Nat) (S : ByteArray) (w : World) (hr : Rd w r S 0) (hL : S.size ≤ 1000000) :
    Calls Tryz.prog 177 #[.pointer (some ⟨r, 0, none⟩)] w fun x w' => ReadSaidC (readN S).1 w x w' r := by
  have hrl := hr.lt
  have hpr : w.heap.size ≠ r := by omega
  have hnew := Nblk.new w false none none 0 0 0 0
  have HC := hide (byte_any r 0 S _ (hr.alloc (.cells #[.bool false, .slice none 0 0, .slice none 0 0] 38)) hL)
  have hle := byteR_le S 0
  have HI := hide (fun W (hW : Rd W r (byteR S 0).2.1 (byteR S 0).2.2) => entriesI_any r _ _ W hW (by omega))
  have HK := hide (fun W (hW : Rd W r (byteR S 0).2.1 (byteR S 0).2.2) => entriesK_any r _ _ W hW (by omega))
  have HN := hide hnew
  unfold readN
  clear hr hnew hle
  generalize byteR S 0 = T at *
  by_cases h1 : T.1 = 1
  · have f1 : ((T.1 : Int) == 1) = true := beq_iff_eq.2 (by omega)
    rw [if_pos h1]
    clear h1 HK
    generalize countR itemR T.2.1 T.2.2 = U at *
    go_enter Tryz.func177, Tryz.ntmps177
    go_wp2_with fail
    refine (unhide HC).mono ?_
    rintro x w1 ⟨rfl, ht⟩
    have HP := hide ((unhide HN).told ht hpr)
    have HT := hide ht.boxed
    have HD := hide ht.2
    clear ht HC HN
    obtain ⟨p, hp⟩ : ∃ y, y = w.heap.size := ⟨_, rfl⟩
    rw [← hp] at HP hpr ⊢
    have hpw : w.heap.size ≤ p := Nat.le_of_eq hp.symm
    clear hp
    go_wp2_with fail
    refine (unhide HI _ (unhide HD)).mono ?_
    rintro x w2 ⟨a, cap, rfl, ho, ht⟩
    have hp2 := (unhide HP).told ht hpr
    have HG := hide (grown_trans (unhide HT).1 ht.1)
    have HO := hide ho.row
    have HCP := hide (OwnE.cap ho)
    have c0 := hp2.cell0
    have c1 := hp2.cell1
    have c2 := hp2.cell2
    have f0 := hp2.free 0
    have f1' := hp2.free 1
    have f2 := hp2.free 2
    have HP2 := hide hp2
    clear ho ht hp2
    go_wp2
    have hs := (unhide HP2).store true a U.1.length cap none 0 0 (m := ⟨true, U.1, []⟩) (bi := a) (bk := none) ⟨unhide HO, .inl rfl⟩
    refine bodyPost_ret (v := .agg #[.bool true, .slice a U.1.length cap, .slice none 0 0]) ?_ rfl ⟨a, none, cap, 0, rfl, hs.2, ⟨unhide HCP, Nat.le_refl 0⟩, grown_store (grown_store (grown_store (unhide HG) p 0 _ hpw) p 1 _ hpw) p 2 _ hpw⟩
    rw [results_cell1 rfl]
    go_simp
  · have f1 : ((T.1 : Int) == 1) = false := beq_eq_false_iff_ne.2 (by omega)
    rw [if_neg h1]
    clear h1
    by_cases h2 : T.1 = 2
    · have g1 : ((T.1 : Int) == 2) = true := beq_iff_eq.2 (by omega)
      rw [if_pos h2]
      clear h2 HI
      generalize countR kidR T.2.1 T.2.2 = U at *
      go_enter Tryz.func177, Tryz.ntmps177
      go_wp2_with fail
      refine (unhide HC).mono ?_
      rintro x w1 ⟨rfl, ht⟩
      have HP := hide ((unhide HN).told ht hpr)
      have HT := hide ht.boxed
      have HD := hide ht.2
      clear ht HC HN
      obtain ⟨p, hp⟩ : ∃ y, y = w.heap.size := ⟨_, rfl⟩
      rw [← hp] at HP hpr ⊢
      have hpw : w.heap.size ≤ p := Nat.le_of_eq hp.symm
      clear hp
      go_wp2_with fail
      refine (unhide HK _ (unhide HD)).mono ?_
      rintro x w2 ⟨a, cap, rfl, ho, ht⟩
      have hp2 := (unhide HP).told ht hpr
      have HG := hide (grown_trans (unhide HT).1 ht.1)
      have HO := hide ho.row
      have HCP := hide (OwnE.cap ho)
      have c0 := hp2.cell0
      have c1 := hp2.cell1
      have c2 := hp2.cell2
      have f0 := hp2.free 0
      have f1' := hp2.free 1
      have f2 := hp2.free 2
      have HP2 := hide hp2
      clear ho ht hp2
      go_wp2
      have hs := (unhide HP2).store false none 0 0 a U.1.length cap (m := ⟨false, [], U.1⟩) (bi := none) (bk := a) ⟨.inl rfl, unhide HO⟩
      refine bodyPost_ret (v := .agg #[.bool false, .slice none 0 0, .slice a U.1.length cap]) ?_ rfl ⟨none, a, 0, cap, rfl, hs.2, ⟨Nat.le_refl 0, unhide HCP⟩, grown_store (grown_store (grown_store (unhide HG) p 0 _ hpw) p 1 _ hpw) p 2 _ hpw⟩
      rw [results_cell1 rfl]
      go_simp
    · have g1 : ((T.1 : Int) == 2) = false := beq_eq_false_iff_ne.2 (by omega)
      rw [if_neg h2]
      clear h2 HI HK
      go_enter Tryz.func177, Tryz.ntmps177
      go_wp2_with fail
      refine (unhide HC).mono ?_
      rintro x w1 ⟨rfl, ht⟩
      have HP := hide ((unhide HN).told ht hpr)
      have HT := hide ht.boxed
      have HD := hide ht.2
      clear ht HC HN
      obtain ⟨p, hp⟩ : ∃ y, y = w.heap.size := ⟨_, rfl⟩
      rw [← hp] at HP hpr ⊢
      have hpw : w.heap.size ≤ p := Nat.le_of_eq hp.symm
      clear hp
      have hp2 := unhide HP
      have c0 := hp2.cell0
      have c1 := hp2.cell1
      have c2 := hp2.cell2
      have f0 := hp2.free 0
      have f1' := hp2.free 1
      have f2 := hp2.free 2
      clear hp2
      go_wp2
      have hs := (unhide HP).store false none 0 0 none 0 0 (m := ⟨false, [], []⟩) (bi := none) (bk := none) ⟨.inl rfl, .inl rfl⟩
      refine bodyPost_ret (v := .agg #[.bool false, .slice none 0 0, .slice none 0 0]) ?_ rfl ⟨none, none, 0, 0, rfl, hs.2, ⟨Nat.le_refl 0, Nat.le_refl 0⟩, grown_store (grown_store (grown_store (unhide HT).1 p 0 _ hpw) p 1 _ hpw) p 2 _ hpw⟩
      rw [results_cell1 rfl]
      go_simp
/-- the program has read a node -/
theorem read_wholeC (S : ByteArray) (g : Nat) (W w : World) (hb : Below W.heap.size W w) (hg : W.heap.size ≤ g) (hr : Rd w g S 0) (hL : S.size ≤ 1000000) :
    Calls Tryz.prog 177 #[.pointer (some ⟨g, 0, none⟩)] w fun x w' => ∃ (ai ak : Option Addr) (ci ck : Nat), x = .returned (.agg #[.bool (readN S).1.leaf, .slice ai (readN S).1.its.length ci, .slice ak (readN S).1.kds.length ck]) ∧ Has w' (readN S).1 ai ak ∧ ((readN S).1.its.length ≤ ci ∧ (readN S).1.kds.length ≤ ck) ∧ Below W.heap.size W w' := by
  refine (read_nodeC g S w hr hL).mono ?_
  rintro x w' ⟨ai, ak, ci, ck, he, hh, hcp, hgr⟩
  exact ⟨ai, ak, ci, ck, he, hh, hcp, hb.grown hgr hb.size (fun k hk => by injection hk with hk; omega)⟩

set_option maxRecDepth 10000 in
set_option maxHeartbeats 2000000 in
theorem decode_longC (S : ByteArray) (w : World) (h : 1007 < S.size) :
    Calls Tryz.prog 146 #[.string S] w fun x w' => DecSaidC (nd0, 60) w x w' := by
  go_enter Tryz.func146, Tryz.ntmps146
  go_wp2
  refine bodyPost_ret (v := .tuple #[.agg #[.bool false, .slice none 0 0, .slice none 0 0], .int .i64 60]) ?_ rfl ⟨none, none, 0, 0, rfl, ⟨.inl rfl, .inl rfl⟩, ⟨Nat.le_refl 0, Nat.le_refl 0⟩, below_alloc _ _⟩
  rw [results_cell_tmp rfl]
  go_simp

set_option maxRecDepth 10000 in
set_option maxHeartbeats 4000000 in
theorem decode_shortC (S : ByteArray) (w : World) (h : S.size ≤ 1007) :
    Calls Tryz.prog 146 #[.string S] w fun x w' => DecSaidC (decodeN S) w x w' := by
  have hi := readN_its S h
  have hk := readN_kds S h
  have HD : Hid (decodeN S = if encodeN (readN S).1 = (S, 0) then ((readN S).1, 0) else (nd0, 60)) := by
    show _ = _
    unfold decodeN
    by_cases he : encodeN (readN S).1 = (S, 0)
    · rw [if_pos ⟨h, he⟩, if_pos he]
    · rw [if_neg (fun h => he h.2), if_neg he]
  have HRW := hide (fun g W w' hb hg hr => read_wholeC S g W w' hb hg hr (by omega))
  generalize readN S = N at *
  obtain ⟨n, LL, ee⟩ := N
  simp only at hi hk HD HRW
  have HP := hide (Nblk.new w false none none 0 0 0 0)
  have HB := hide (below_alloc w (.cells #[.bool false, .slice none 0 0, .slice none 0 0] 38))
  go_enter Tryz.func146, Tryz.ntmps146
  go_wp2_with fail
  obtain ⟨p, hp⟩ : ∃ y, y = w.heap.size := ⟨_, rfl⟩
  rw [← hp] at HP ⊢
  generalize w.alloc (.cells #[.bool false, .slice none 0 0, .slice none 0 0] 38) = w1 at *
  have hpw : w.heap.size ≤ p := Nat.le_of_eq hp.symm
  clear hp
  refine (read_new S w1).mono ?_
  rintro x w2 ⟨g, rfl, hg, hr, hb⟩
  have HG := hide (And.intro hg (And.intro hr hb))
  clear hg hr hb
  go_wp2_with fail
  refine (unhide HRW g w1 _ (unhide HG).2.2 (unhide HG).1 (unhide HG).2.1).mono ?_
  rintro x w3 ⟨ai, ak, ci, ck, rfl, hh, hcp, hb⟩
  have HCP := hide hcp
  clear hcp
  have HB3 := hide hb
  have HH3 := hide hh
  have HP3 := hide ((unhide HP).below hb)
  clear hb hh HG HP
  go_wp2_with fail
  have HN := hide (Nblk.new w3 n.leaf ai ak n.its.length ci n.kds.length ck)
  have HB4 := hide (below_alloc w3 (.cells #[.bool n.leaf, .slice ai n.its.length ci, .slice ak n.kds.length ck] 38))
  obtain ⟨q, hq⟩ : ∃ y, y = w3.heap.size := ⟨_, rfl⟩
  rw [← hq] at HN ⊢
  generalize w3.alloc (.cells #[.bool n.leaf, .slice ai n.its.length ci, .slice ak n.kds.length ck] 38) = w4 at *
  clear hq
  refine (encode_any n ai ak ci ck w4 ((unhide HH3).grow (unhide HB4)) hi hk).mono ?_
  rintro x w5 ⟨rfl, hb⟩
  have hp5 := ((unhide HP3).below (unhide HB4)).below hb
  have hq5 := (unhide HN).below hb
  have HH5 := hide (((unhide HH3).grow (unhide HB4)).grow hb)
  have HB5 := hide (below_then (below_then (below_then (unhide HB) (unhide HB3)) (unhide HB4)) hb)
  have c0 := hp5.cell0
  have c1 := hp5.cell1
  have c2 := hp5.cell2
  have f0 := hp5.free 0
  have f1 := hp5.free 1
  have f2 := hp5.free 2
  have d0 := hq5.cell0
  have d1 := hq5.cell1
  have d2 := hq5.cell2
  have HP5 := hide hp5
  clear hb hp5 hq5 HB HB3 HB4 HH3 HP3 HN
  generalize encodeN n = E at *
  obtain ⟨T, er⟩ := E
  simp only
  by_cases her : er = 0
  · subst her
    by_cases hT : T = S
    · subst hT
      have hs := str_same T
      have hd : decodeN T = (n, 0) := by rw [unhide HD, if_pos rfl]
      clear HD
      have HD := hide hd
      clear hd
      go_wp2
      have hst := (unhide HP5).store n.leaf ai n.its.length ci ak n.kds.length ck (unhide HH5)
      refine bodyPost_ret (v := .tuple #[.agg #[.bool n.leaf, .slice ai n.its.length ci, .slice ak n.kds.length ck], .int .i64 0]) ?_ rfl ?_
      · rw [results_cell_tmp rfl]
        go_simp
      · rw [unhide HD]
        exact ⟨ai, ak, ci, ck, rfl, hst.2, unhide HCP, below_store (below_store (below_store (unhide HB5) p 0 _ hpw) p 1 _ hpw) p 2 _ hpw⟩
    · have hs := str_neq hT
      have hd : decodeN S = (nd0, 60) := by rw [unhide HD, if_neg (fun e => hT (Prod.ext_iff.1 e).1)]
      have HD := hide hd
      clear hd hT
      go_wp2
      refine bodyPost_ret (v := .tuple #[.agg #[.bool false, .slice none 0 0, .slice none 0 0], .int .i64 60]) ?_ rfl ?_
      · rw [results_cell_tmp rfl]
        go_simp
      · rw [unhide HD]
        exact ⟨none, none, 0, 0, rfl, ⟨.inl rfl, .inl rfl⟩, ⟨Nat.le_refl 0, Nat.le_refl 0⟩, below_store (below_store (below_store (unhide HB5) p 0 _ hpw) p 1 _ hpw) p 2 _ hpw⟩
  · have g0 : ((er : Int) == 0) = false := beq_eq_false_iff_ne.2 (by omega)
    have g1 : ((er : Int) != 0) = true := bne_iff_ne.2 (by omega)
    have hd : decodeN S = (nd0, 60) := by rw [unhide HD, if_neg (fun e => her (Prod.ext_iff.1 e).2)]
    have HD := hide hd
    clear hd her
    go_wp2
    refine bodyPost_ret (v := .tuple #[.agg #[.bool false, .slice none 0 0, .slice none 0 0], .int .i64 60]) ?_ rfl ?_
    · rw [results_cell_tmp rfl]
      go_simp
    · rw [unhide HD]
      exact ⟨none, none, 0, 0, rfl, ⟨.inl rfl, .inl rfl⟩, ⟨Nat.le_refl 0, Nat.le_refl 0⟩, below_store (below_store (below_store (unhide HB5) p 0 _ hpw) p 1 _ hpw) p 2 _ hpw⟩

theorem decode_anyC (S : ByteArray) (w : World) : Calls Tryz.prog 146 #[.string S] w fun x w' => DecSaidC (decodeN S) w x w' := by
  by_cases h : S.size ≤ 1007
  · exact decode_shortC S w h
  · have e : decodeN S = (nd0, 60) := by unfold decodeN; rw [if_neg (fun h' => h h'.1)]
    rw [e]
    exact decode_longC S w (by omega)
end Go.Proofs.YtdelobaiicoogaaGreatDoor.L6

/- What is got of a heap, once more: each slice has room for what it has. -/
namespace Go.Proofs.YtdelobaiicoogaaGreatDoor
open Go.ChangeShapes Go.WideShapes Go.ChangeAt Go.RowKit
variable {w w' : World} {p d : Nat} {h : Hp} {c : Nat} {F : List Nat} {a b kb : Nat} {fd : List Nat} {kf : Nat → Option Value}

def FetchSaidC (T : L6.Nd × Int × Int) (w : World) (x : Ending) (w' : World) : Prop := ∃ (ai ak : Option Addr) (ci ck : Nat), x = .returned (.tuple #[.agg #[.bool T.1.leaf, .slice ai T.1.its.length ci, .slice ak T.1.kds.length ck], .int .i64 T.2.1, .int .i64 T.2.2]) ∧ L6.Has w' T.1 ai ak ∧ (T.1.its.length ≤ ci ∧ T.1.kds.length ≤ ck) ∧ Below w.heap.size w w'
def GetSaidC (T : L6.Nd × Int) (w : World) (x : Ending) (w' : World) : Prop := ∃ (ai ak : Option Addr) (ci ck : Nat), x = .returned (.tuple #[.agg #[.bool T.1.leaf, .slice ai T.1.its.length ci, .slice ak T.1.kds.length ck], .int .i64 T.2]) ∧ L6.Has w' T.1 ai ak ∧ (T.1.its.length ≤ ci ∧ T.1.kds.length ≤ ck) ∧ Below w.heap.size w w'
set_option maxHeartbeats 4000000 in
set_option maxRecDepth 20000 in
theorem fetch_anyC (q : Int) (w : World) (H : HeapAt w p d h c a b kb fd kf) :
    Calls Tryz.prog 113 #[.agg #[.pointer (some ⟨a, 0, none⟩), .pointer (some ⟨d, 0, none⟩)], .int .i64 q] w fun e w' => FetchSaidC (fetchM h.dk q) w e w' := by
  have hb0 := below_alloc w (.cells #[.pointer (some ⟨a, 0, none⟩), .pointer (some ⟨d, 0, none⟩)] 83)
  have q1 : (w.alloc (.cells #[.pointer (some ⟨a, 0, none⟩), .pointer (some ⟨d, 0, none⟩)] 83)).cell? ⟨w.heap.size, 1, none⟩ = some (.pointer (some ⟨d, 0, none⟩)) := by simp
  have HBa := hide hb0
  have HH0 := hide (H.grow hb0)
  clear H hb0
  have hs0 : (w.alloc (.cells #[.pointer (some ⟨a, 0, none⟩), .pointer (some ⟨d, 0, none⟩)] 83)).heap.size = w.heap.size + 1 := World.size_alloc _ _
  obtain ⟨B, hB⟩ : ∃ x, x = w.heap.size := ⟨_, rfl⟩
  have HBE := hide hB
  go_enter Tryz.func113, Tryz.ntmps113
  go_wp2_with fail
  rw [← hB] at q1 hs0 ⊢
  clear hB
  generalize w.alloc (.cells #[.pointer (some ⟨a, 0, none⟩), .pointer (some ⟨d, 0, none⟩)] 83) = w0 at *
  have HP := hide (L6.Nblk.new w0 false none none 0 0 0 0)
  have hb1 := below_alloc w0 (.cells #[.bool false, .slice none 0 0, .slice none 0 0] 38)
  have HB := hide (below_then (unhide HBa) hb1)
  have HH := hide ((unhide HH0).grow hb1)
  have HR := hide (Nat.le_trans (unhide HBa).size (Nat.le_refl w0.heap.size))
  clear hb1
  rw [hs0] at HP HR
  clear hs0
  obtain ⟨P, hP⟩ : ∃ x, x = B + 1 := ⟨_, rfl⟩
  rw [← hP] at HP HR ⊢
  clear hP
  generalize w0.alloc (.cells #[.bool false, .slice none 0 0, .slice none 0 0] 38) = w1 at *
  obtain ⟨fb, lb, ov, hD, _⟩ := (unhide HH).dk
  refine (L3.read_any q w1 hD).mono ?_
  clear hD
  rintro x w2 ⟨rfl, hb2⟩
  have hp2 := (unhide HP).below hb2
  have c0 := hp2.cell0
  have c1 := hp2.cell1
  have c2 := hp2.cell2
  have f0 := hp2.free 0
  have f1 := hp2.free 1
  have f2 := hp2.free 2
  have HP2 := hide hp2
  have HB2 := hide (below_then (unhide HB) hb2)
  have HH2 := hide ((unhide HH).grow hb2)
  clear hb2 hp2 HP HB HH HH0 HBa
  by_cases hr : (L3.readM h.dk q).2 = 0
  · have hD : fetchM h.dk q = nodeOf (L3.readM h.dk q).1 := by unfold fetchM; rw [if_neg (fun hn => hn hr)]
    rw [hr]
    obtain ⟨S, hS⟩ : ∃ x, x = (L3.readM h.dk q).1 := ⟨_, rfl⟩
    rw [← hS] at hD ⊢
    have HDf := hide hD
    clear hD hr hS
    go_wp2_with fail
    refine (L4.open_any S w2 (unhide HH2).tab).mono ?_
    rintro x w3 ⟨rfl, hb3⟩
    unfold L4.opened
    generalize hO : L4.openR S = O at *
    obtain ⟨K, G, Y, eo⟩ := O
    simp only
    have hD : nodeOf S = if eo ≠ 0 then (L6.nd0, 0, 70) else if (L6.decodeN Y).2 ≠ 0 then (L6.nd0, 0, 70) else if K ≠ (kindN (L6.decodeN Y).1 : Int) then (L6.nd0, 0, 70) else ((L6.decodeN Y).1, G, 0) := by
      unfold nodeOf
      rw [hO]
    rw [← unhide HDf] at hD
    clear HDf
    have hp3 := (unhide HP2).below hb3
    clear c0 c1 c2 f0 f1 f2
    by_cases he : eo = 0
    · subst he
      rw [if_neg (by simp)] at hD
      have HD := hide hD
      have hB4 := below_alloc w3 (.cells #[.int .i64 K, .int .i64 G, .string Y] 90)
      have HX4 := hide (L4.Box.new w3 (.int .i64 K) (.int .i64 G) (.string Y))
      have HB4 := hide (below_then (below_then (unhide HB2) hb3) hB4)
      have HP4 := hide (hp3.below hB4)
      have HPX := hide hp3.lt
      clear hO hD hb3 hp3 hB4 HB2 HP2
      go_wp2_with fail
      obtain ⟨X, hX⟩ : ∃ x, x = w3.heap.size := ⟨_, rfl⟩
      unfold L4.Box at HX4
      rw [← hX] at HX4 HPX ⊢
      clear hX
      generalize w3.alloc (.cells #[.int .i64 K, .int .i64 G, .string Y] 90) = w4 at *
      refine (L6.decode_anyC Y w4).mono ?_
      rintro x w5 ⟨ai, ak, ci, ck, rfl, hh5, hcp, hb5⟩
      have HCP := hide hcp
      clear hcp
      obtain ⟨hbx, b0, b1, b2⟩ := unhide HX4
      have hlx : X < w4.heap.size := World.block_lt_of_cell? _ _ b0
      have y0 := (hb5.cell (p := ⟨X, 0, none⟩) hlx).trans b0
      have y1 := (hb5.cell (p := ⟨X, 1, none⟩) hlx).trans b1
      clear hbx b0 b1 b2 HX4 hlx
      have hp5 := (unhide HP4).below hb5
      have HB5 := hide (below_then (unhide HB4) hb5)
      clear hb5 HP4 HB4
      generalize L6.decodeN Y = DN at *
      obtain ⟨n, ed⟩ := DN
      simp only at hh5 HD HCP ⊢
      have hN := L6.Nblk.new w5 n.leaf ai ak n.its.length ci n.kds.length ck
      have hb6 := below_alloc w5 (.cells #[.bool n.leaf, .slice ai n.its.length ci, .slice ak n.kds.length ck] 38)
      have HH6 := hide (hh5.grow hb6)
      have hp6 := hp5.below hb6
      have HB6 := hide (below_then (unhide HB5) hb6)
      have z0 := (hb6.cell (World.block_lt_of_cell? _ _ y0)).trans y0
      have z1 := (hb6.cell (World.block_lt_of_cell? _ _ y1)).trans y1
      have x0 := hN.cell0
      have x1 := hN.cell1
      have x2 := hN.cell2
      have c0 := hp6.cell0
      have c1 := hp6.cell1
      have c2 := hp6.cell2
      have f0 := hp6.free 0
      have f1 := hp6.free 1
      have f2 := hp6.free 2
      have HP6 := hide hp6
      clear hh5 hN hb6 hp6 hp5 HB5 y0 y1
      obtain ⟨Q, hQ⟩ : ∃ x, x = w5.heap.size := ⟨_, rfl⟩
      go_wp2_with fail
      rw [← hQ] at x0 x1 x2 ⊢
      clear hQ
      generalize w5.alloc (.cells #[.bool n.leaf, .slice ai n.its.length ci, .slice ak n.kds.length ck] 38) = w6 at *
      by_cases hd : ed = 0
      · subst hd
        have HD2 : Hid (fetchM h.dk q = if K ≠ (kindN n : Int) then (L6.nd0, 0, 70) else (n, G, 0)) := by
          have := unhide HD
          rw [if_neg (by simp)] at this
          exact this
        clear HD c0 c1 c2 f0 f1 f2
        obtain ⟨KN, hKN⟩ : ∃ x : Int, x = (if n.leaf then 1 else 2) := ⟨_, rfl⟩
        have HKN := hide hKN
        have hKe : (kindN n : Int) = KN := by rw [hKN]; unfold kindN; split <;> rfl
        have HKE := hide hKe
        clear hKN hKe
        by_cases hK : K = KN
        · have HD : Hid (fetchM h.dk q = (n, G, 0)) := by
            have := unhide HD2
            rw [if_neg (fun hn => hn (by rw [unhide HKE]; exact hK))] at this
            exact this
          clear HD2
          have hK1 : (K == KN) = true := by rw [hK]; simp
          have hK2 : (K != KN) = false := by rw [hK]; simp
          clear hK
          go_region_held3 (fun w' => w'.cell? ⟨X, 0, none⟩ = some (.int .i64 K) ∧ w'.cell? ⟨Q, 0, none⟩ = some (.bool n.leaf) ∧ w'.cell? ⟨Q, 1, none⟩ = some (.slice ai n.its.length ci) ∧ w'.cell? ⟨Q, 2, none⟩ = some (.slice ak n.kds.length ck))
            (first | assumption | exact ⟨z0, x0, x1, x2⟩ | exact ⟨k0, m0, m1, m2⟩)
            (first
              | (go_at_call 27; go_split_ands; refine (kindOf_any n.leaf _ _ _).mono ?_; rintro e w7 ⟨rfl, hb7⟩; rw [← unhide HKN]; have k0 := (hb7.cell (World.block_lt_of_cell? _ _ (show w6.drew.cell? _ = _ from z0))).trans z0; have m0 := (hb7.cell (World.block_lt_of_cell? _ _ (show w6.drew.cell? _ = _ from x0))).trans x0; have m1 := (hb7.cell (World.block_lt_of_cell? _ _ (show w6.drew.cell? _ = _ from x1))).trans x1; have m2 := (hb7.cell (World.block_lt_of_cell? _ _ (show w6.drew.cell? _ = _ from x2))).trans x2; have HB7 := hide (below_then (below_drew w6) hb7); clear hb7))
          have hp7 := (unhide HP6).below (unhide HB7)
          have c0 := hp7.cell0
          have c1 := hp7.cell1
          have c2 := hp7.cell2
          have f0 := hp7.free 0
          have f1 := hp7.free 1
          have f2 := hp7.free 2
          have HP7 := hide hp7
          have HH7 := hide ((unhide HH6).grow (unhide HB7))
          have HB8 := hide (below_then (unhide HB6) (unhide HB7))
          have u1 := ((unhide HB7).cell (World.block_lt_of_cell? _ _ z1)).trans z1
          clear hp7 z0 z1 x0 x1 x2
          have hne : X ≠ P := by have := unhide HPX; omega
          have hne' : P ≠ X := fun e => hne e.symm
          go_wp2_with fail
          go_region
          go_wp2
          have hst := (unhide HP7).store n.leaf ai n.its.length ci ak n.kds.length ck (unhide HH7)
          refine bodyPost_ret (v := .tuple #[.agg #[.bool n.leaf, .slice ai n.its.length ci, .slice ak n.kds.length ck], .int .i64 G, .int .i64 0]) ?_ rfl ?_
          · rw [results_cell_tmp2 rfl]
            go_simp
          · rw [unhide HD]
            exact ⟨ai, ak, ci, ck, rfl, hst.2.grow (below_drew _), unhide HCP, (L6.below_store (L6.below_store (L6.below_store (unhide HB8) P 0 _ (unhide HR)) P 1 _ (unhide HR)) P 2 _ (unhide HR)).drew⟩
        · have HD : Hid (fetchM h.dk q = (L6.nd0, 0, 70)) := by
            have := unhide HD2
            rw [if_pos (fun hn => hK (by rw [← unhide HKE]; exact hn))] at this
            exact this
          have hK1 : (K == KN) = false := beq_eq_false_iff_ne.2 hK
          have hK2 : (K != KN) = true := bne_iff_ne.2 hK
          clear HD2 hK
          go_region_held3 (fun w' => w'.cell? ⟨X, 0, none⟩ = some (.int .i64 K) ∧ w'.cell? ⟨Q, 0, none⟩ = some (.bool n.leaf) ∧ w'.cell? ⟨Q, 1, none⟩ = some (.slice ai n.its.length ci) ∧ w'.cell? ⟨Q, 2, none⟩ = some (.slice ak n.kds.length ck))
            (first | assumption | exact ⟨z0, x0, x1, x2⟩ | exact ⟨k0, m0, m1, m2⟩)
            (first
              | (go_at_call 27; go_split_ands; refine (kindOf_any n.leaf _ _ _).mono ?_; rintro e w7 ⟨rfl, hb7⟩; rw [← unhide HKN]; have k0 := (hb7.cell (World.block_lt_of_cell? _ _ (show w6.drew.cell? _ = _ from z0))).trans z0; have m0 := (hb7.cell (World.block_lt_of_cell? _ _ (show w6.drew.cell? _ = _ from x0))).trans x0; have m1 := (hb7.cell (World.block_lt_of_cell? _ _ (show w6.drew.cell? _ = _ from x1))).trans x1; have m2 := (hb7.cell (World.block_lt_of_cell? _ _ (show w6.drew.cell? _ = _ from x2))).trans x2; have HB7 := hide (below_then (below_drew w6) hb7); clear hb7))
          have hp7 := (unhide HP6).below (unhide HB7)
          have c0 := hp7.cell0
          have c1 := hp7.cell1
          have c2 := hp7.cell2
          have f0 := hp7.free 0
          have f1 := hp7.free 1
          have f2 := hp7.free 2
          have HP7 := hide hp7
          have HH7 := hide ((unhide HH6).grow (unhide HB7))
          have HB8 := hide (below_then (unhide HB6) (unhide HB7))
          have u1 := ((unhide HB7).cell (World.block_lt_of_cell? _ _ z1)).trans z1
          clear hp7 z0 z1 x0 x1 x2
          go_wp2
          have hst := (unhide HP7).store false none 0 0 none 0 0 (m := L6.nd0) (bi := none) (bk := none) ⟨.inl rfl, .inl rfl⟩
          refine bodyPost_ret (v := .tuple #[.agg #[.bool false, .slice none 0 0, .slice none 0 0], .int .i64 0, .int .i64 70]) ?_ rfl ?_
          · rw [results_cell_tmp2 rfl]
            go_simp
          · rw [unhide HD]
            exact ⟨none, none, 0, 0, rfl, hst.2, ⟨Nat.le_refl 0, Nat.le_refl 0⟩, L6.below_store (L6.below_store (L6.below_store (unhide HB8) P 0 _ (unhide HR)) P 1 _ (unhide HR)) P 2 _ (unhide HR)⟩
      · have hd1 : ((ed : Int) == 0) = false := beq_eq_false_iff_ne.2 (by omega)
        have hd2 : ((ed : Int) != 0) = true := bne_iff_ne.2 (by omega)
        have HD2 : Hid (fetchM h.dk q = (L6.nd0, 0, 70)) := by
          have := unhide HD
          rw [if_pos hd] at this
          exact this
        clear HD hd
        have HD := HD2
        clear HD2
        go_quiet (fail)
        rename_i nq
        have hp7 : L6.Nblk (w6.drewN nq) P false none 0 0 none 0 0 := unhide HP6
        have c0 := hp7.cell0
        have c1 := hp7.cell1
        have c2 := hp7.cell2
        have f0 := hp7.free 0
        have f1 := hp7.free 1
        have f2 := hp7.free 2
        have HP7 := hide hp7
        have HB8 : Hid (Below w.heap.size w (w6.drewN nq)) := below_then (unhide HB6) ⟨rfl, rfl, rfl, Nat.le_refl _, fun _ _ => rfl⟩
        clear hp7 z0 z1 x0 x1 x2
        go_wp2
        have hst := (unhide HP7).store false none 0 0 none 0 0 (m := L6.nd0) (bi := none) (bk := none) ⟨.inl rfl, .inl rfl⟩
        refine bodyPost_ret (v := .tuple #[.agg #[.bool false, .slice none 0 0, .slice none 0 0], .int .i64 0, .int .i64 70]) ?_ rfl ?_
        · rw [results_cell_tmp2 rfl]
          go_simp
        · rw [unhide HD]
          exact ⟨none, none, 0, 0, rfl, hst.2, ⟨Nat.le_refl 0, Nat.le_refl 0⟩, L6.below_store (L6.below_store (L6.below_store (unhide HB8) P 0 _ (unhide HR)) P 1 _ (unhide HR)) P 2 _ (unhide HR)⟩
    · have her : ((eo : Int) == 0) = false := beq_eq_false_iff_ne.2 (by omega)
      have hen : ((eo : Int) != 0) = true := bne_iff_ne.2 (by omega)
      rw [if_pos he] at hD
      have HD := hide hD
      have HB2' := hide (below_then (unhide HB2) (below_then hb3 (below_alloc w3 (.cells #[.int .i64 K, .int .i64 G, .string Y] 90))))
      have hp4 := hp3.below (below_alloc w3 (.cells #[.int .i64 K, .int .i64 G, .string Y] 90))
      have c0 := hp4.cell0
      have c1 := hp4.cell1
      have c2 := hp4.cell2
      have f0 := hp4.free 0
      have f1 := hp4.free 1
      have f2 := hp4.free 2
      have HP4 := hide hp4
      clear hO hD hb3 hp3 hp4
      go_wp2
      have hst := (unhide HP4).store false none 0 0 none 0 0 (m := L6.nd0) (bi := none) (bk := none) ⟨.inl rfl, .inl rfl⟩
      refine bodyPost_ret (v := .tuple #[.agg #[.bool false, .slice none 0 0, .slice none 0 0], .int .i64 0, .int .i64 70]) ?_ rfl ?_
      · rw [results_cell_tmp2 rfl]
        go_simp
      · rw [unhide HD]
        exact ⟨none, none, 0, 0, rfl, hst.2, ⟨Nat.le_refl 0, Nat.le_refl 0⟩, L6.below_store (L6.below_store (L6.below_store (unhide HB2') P 0 _ (unhide HR)) P 1 _ (unhide HR)) P 2 _ (unhide HR)⟩
  · have hD : fetchM h.dk q = (L6.nd0, 0, (L3.readM h.dk q).2) := by unfold fetchM; rw [if_pos hr]
    obtain ⟨E, hE⟩ : ∃ x, x = (L3.readM h.dk q).2 := ⟨_, rfl⟩
    rw [← hE] at hD hr ⊢
    have HD := hide hD
    clear hE
    have hr1 : (E == 0) = false := beq_eq_false_iff_ne.2 hr
    have hr2 : (E != 0) = true := bne_iff_ne.2 hr
    clear hD hr
    go_wp2
    have hst := (unhide HP2).store false none 0 0 none 0 0 (m := L6.nd0) (bi := none) (bk := none) ⟨.inl rfl, .inl rfl⟩
    refine bodyPost_ret (v := .tuple #[.agg #[.bool false, .slice none 0 0, .slice none 0 0], .int .i64 0, .int .i64 E]) ?_ rfl ?_
    · rw [results_cell_tmp2 rfl]
      go_simp
    · rw [unhide HD]
      exact ⟨none, none, 0, 0, rfl, hst.2, ⟨Nat.le_refl 0, Nat.le_refl 0⟩, L6.below_store (L6.below_store (L6.below_store (unhide HB2) P 0 _ (unhide HR)) P 1 _ (unhide HR)) P 2 _ (unhide HR)⟩
set_option maxHeartbeats 2000000 in
set_option maxRecDepth 20000 in
theorem hget_anyC (q : Int) (hq : L5.I64 q) (w : World) (H : IsHeap w p d h c F) :
    Calls Tryz.prog 74 #[.pointer (some ⟨p, 0, none⟩), .int .i64 q] w fun e w' => GetSaidC (getR h q) w e w' := by
  obtain ⟨a, b, kb, fd, kf, H, rfl⟩ := H
  have HP := hide (L6.Nblk.new w false none none 0 0 0 0)
  have hb0 := below_alloc w (.cells #[.bool false, .slice none 0 0, .slice none 0 0] 38)
  have H0 := H.grow hb0
  have c0 := H0.cell0
  have c1 := H0.cell1
  have HH := hide H0
  have HB := hide hb0
  have HQ := hide hq
  have HR := hide (Nat.le_refl w.heap.size)
  clear H H0 hb0 hq
  by_cases hz : cntL h.al q = 0
  · have hz' : ((L5.cntS (L5.sec 2 h.al q) : Nat) : Int) = 0 := by have : L5.cntS (L5.sec 2 h.al q) = 0 := hz; omega
    have hD : getR h q = (L6.nd0, 51) := by unfold getR; exact if_pos hz
    have HD := hide hD
    clear hz hD
    go_enter Tryz.func74, Tryz.ntmps74
    go_wp2_with (go_at_call 58; refine (L5.count_any q (unhide HQ) _ (unhide HH).al).mono ?_; rintro e w1 ⟨rfl, hw⟩; rw [hw]; clear hw w1; rw [hz'])
    refine bodyPost_ret (v := .tuple #[.agg #[.bool false, .slice none 0 0, .slice none 0 0], .int .i64 51]) ?_ rfl ?_
    · rw [results_cell_tmp rfl]
      go_simp
    · rw [unhide HD]
      exact ⟨none, none, 0, 0, rfl, ⟨.inl rfl, .inl rfl⟩, ⟨Nat.le_refl 0, Nat.le_refl 0⟩, unhide HB⟩
  · have hz' : (((L5.cntS (L5.sec 2 h.al q) : Nat) : Int) == 0) = false := beq_eq_false_iff_ne.2 (by have : ¬ L5.cntS (L5.sec 2 h.al q) = 0 := hz; omega)
    have hD : getR h q = ((fetchM h.dk q).1, (fetchM h.dk q).2.2) := by unfold getR; exact if_neg hz
    have HD := hide hD
    obtain ⟨C, hC⟩ : ∃ y, y = ((L5.cntS (L5.sec 2 h.al q) : Nat) : Int) := ⟨_, rfl⟩
    rw [← hC] at hz'
    have HCE := hide hC
    clear hz hD hC
    obtain ⟨P, hP⟩ : ∃ x, x = w.heap.size := ⟨_, rfl⟩
    go_enter Tryz.func74, Tryz.ntmps74
    go_wp2_with (first
      | (go_at_call 58; refine (L5.count_any q (unhide HQ) _ (unhide HH).al).mono ?_; rintro e w1 ⟨rfl, hw⟩; rw [hw]; clear hw w1; rw [← unhide HCE]))
    rw [← hP] at HP ⊢
    have HPE := hide hP
    clear hP
    generalize w.alloc (.cells #[.bool false, .slice none 0 0, .slice none 0 0] 38) = w1 at *
    refine (fetch_anyC q w1 (unhide HH)).mono ?_
    rintro x w2 ⟨ai, ak, ci, ck, rfl, hh2, hcp, hb2⟩
    have HCP := hide hcp
    clear hcp
    have hp2 := (unhide HP).below hb2
    have HB2 := hide (below_then (unhide HB) hb2)
    generalize fetchM h.dk q = T at *
    obtain ⟨n, G, E⟩ := T
    simp only at hh2 HD HCP ⊢
    have hN := L6.Nblk.new w2 n.leaf ai ak n.its.length ci n.kds.length ck
    have hb3 := below_alloc w2 (.cells #[.bool n.leaf, .slice ai n.its.length ci, .slice ak n.kds.length ck] 38)
    have hp3 := hp2.below hb3
    have HH3 := hide (hh2.grow hb3)
    have HB3 := hide (below_then (unhide HB2) hb3)
    have x0 := hN.cell0
    have x1 := hN.cell1
    have x2 := hN.cell2
    have z0 := hp3.cell0
    have z1 := hp3.cell1
    have z2 := hp3.cell2
    have f0 := hp3.free 0
    have f1 := hp3.free 1
    have f2 := hp3.free 2
    have HP3 := hide hp3
    clear c0 c1 hb2 hp2 hh2 hN hb3 hp3
    go_wp2
    have hst := (unhide HP3).store n.leaf ai n.its.length ci ak n.kds.length ck (unhide HH3)
    refine bodyPost_ret (v := .tuple #[.agg #[.bool n.leaf, .slice ai n.its.length ci, .slice ak n.kds.length ck], .int .i64 E]) ?_ rfl ?_
    · rw [results_cell_tmp rfl]
      go_simp
    · rw [unhide HD]
      have hR : w.heap.size ≤ P := Nat.le_of_eq (unhide HPE).symm
      exact ⟨ai, ak, ci, ck, rfl, hst.2, unhide HCP, L6.below_store (L6.below_store (L6.below_store (unhide HB3) P 0 _ hR) P 1 _ hR) P 2 _ hR⟩
end Go.Proofs.YtdelobaiicoogaaGreatDoor
