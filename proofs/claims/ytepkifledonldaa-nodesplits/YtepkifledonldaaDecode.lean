/- Decode, as the program answers. -/
import Derived.Test.YtepkifledonldaaRead
namespace Go.Proofs.Ytepkifledonldaa
open Go.ChangeShapes Go.WideShapes Go.ChangeAt Go.RowKit

theorem listR_len {α : Type} {f : ByteArray → Nat → α × ByteArray × Nat} (hf0 : ∀ L, (f L 0).2.2 = 0 → (f L 0).2.1.size + 1 ≤ L.size) (c : Nat) (L : ByteArray) (e : Nat) : (listR f c L e).1.length ≤ L.size + 1 := by
  induction c generalizing L e with
  | zero => simp [listR]
  | succ c ih =>
    by_cases he : e = 0
    · subst he
      rw [listR_next]
      show (listR f c (f L 0).2.1 (f L 0).2.2).1.length + 1 ≤ _
      by_cases h0 : (f L 0).2.2 = 0
      · have h1 := ih (f L 0).2.1 (f L 0).2.2
        have h2 := hf0 L h0
        omega
      · rw [listR_err f c _ _ h0]
        simp
    · rw [listR_err f _ _ _ he]
      simp
theorem readN_its (S : ByteArray) (h : S.size ≤ 1007) : (readN S).1.its.length ≤ 1100 := by
  unfold readN
  split
  · show (countR itemR (byteR S 0).2.1 (byteR S 0).2.2).1.length ≤ _
    have h1 := listR_len itemR_lt (shortR (byteR S 0).2.1 (byteR S 0).2.2).1 (shortR (byteR S 0).2.1 (byteR S 0).2.2).2.1 (shortR (byteR S 0).2.1 (byteR S 0).2.2).2.2
    have h2 := shortR_le (byteR S 0).2.1 (byteR S 0).2.2
    have h3 := byteR_le S 0
    unfold countR
    omega
  · split
    · exact Nat.zero_le _
    · exact Nat.zero_le _
theorem readN_kds (S : ByteArray) (h : S.size ≤ 1007) : (readN S).1.kds.length ≤ 1100 := by
  unfold readN
  split
  · exact Nat.zero_le _
  · split
    · show (countR kidR (byteR S 0).2.1 (byteR S 0).2.2).1.length ≤ _
      have h1 := listR_len kidR_lt (shortR (byteR S 0).2.1 (byteR S 0).2.2).1 (shortR (byteR S 0).2.1 (byteR S 0).2.2).2.1 (shortR (byteR S 0).2.1 (byteR S 0).2.2).2.2
      have h2 := shortR_le (byteR S 0).2.1 (byteR S 0).2.2
      have h3 := byteR_le S 0
      unfold countR
      omega
    · exact Nat.zero_le _

def nd0 : Nd := ⟨false, [], []⟩
/-- THE DOCUMENT's: the node of these bytes, or the error -/
def decodeN (S : ByteArray) : Nd × Nat := if S.size ≤ 1007 ∧ encodeN (readN S).1 = (S, 0) then ((readN S).1, 0) else (nd0, 60)
def DecSaid (T : Nd × Nat) (w : World) (x : Ending) (w' : World) : Prop := ∃ (ai ak : Option Addr) (ci ck : Nat), x = .returned (.tuple #[.agg #[.bool T.1.leaf, .slice ai T.1.its.length ci, .slice ak T.1.kds.length ck], .int .i64 (T.2 : Int)]) ∧ Has w' T.1 ai ak ∧ Below w.heap.size w w'
theorem below_store {a b : World} {B : Nat} (h : Below B a b) (p j : Nat) (u : Value) (hp : B ≤ p) : Below B a (b.setCell ⟨p, j, none⟩ u) := h.setCell hp u
theorem str_neq {A B : ByteArray} (h : A ≠ B) : (A.toList == B.toList) = false := by
  rw [beq_eq_false_iff_ne]
  intro e
  rw [ByteArray.toList_eq, ByteArray.toList_eq] at e
  exact h (ByteArray.ext (Array.toList_inj.1 e))
theorem str_same (A : ByteArray) : (A.toList == A.toList) = true := by simp
theorem read_new (s : ByteArray) (w : World) :
    Calls Try.prog 28 #[.string s] w fun x w' => ∃ g, x = .returned (.pointer (some ⟨g, 0, none⟩)) ∧ w.heap.size ≤ g ∧ Rd w' g s 0 ∧ Below w.heap.size w w' := by
  refine (read_any s w).mono ?_
  rintro x w' ⟨rfl, rfl⟩
  exact ⟨_, rfl, Nat.le_refl _, Rd.new w s, (Below.refl _ _).alloc (Nat.le_refl _) _⟩
/-- the program has read a node -/
theorem read_whole (S : ByteArray) (g : Nat) (W w : World) (hb : Below W.heap.size W w) (hg : W.heap.size ≤ g) (hr : Rd w g S 0) (hL : S.size ≤ 1000000) :
    Calls Try.prog 27 #[.pointer (some ⟨g, 0, none⟩)] w fun x w' => ∃ (ai ak : Option Addr) (ci ck : Nat), x = .returned (.agg #[.bool (readN S).1.leaf, .slice ai (readN S).1.its.length ci, .slice ak (readN S).1.kds.length ck]) ∧ Has w' (readN S).1 ai ak ∧ Below W.heap.size W w' := by
  refine (read_node g S w hr hL).mono ?_
  rintro x w' ⟨ai, ak, ci, ck, he, hh, hgr⟩
  exact ⟨ai, ak, ci, ck, he, hh, hb.grown hgr hb.size (fun k hk => by injection hk with hk; omega)⟩

set_option maxRecDepth 10000 in
set_option maxHeartbeats 2000000 in
theorem decode_long (S : ByteArray) (w : World) (h : 1007 < S.size) :
    Calls Try.prog 16 #[.string S] w fun x w' => DecSaid (nd0, 60) w x w' := by
  go_enter Try.func16, Try.ntmps16
  go_wp2
  refine bodyPost_ret (v := .tuple #[.agg #[.bool false, .slice none 0 0, .slice none 0 0], .int .i64 60]) ?_ rfl ⟨none, none, 0, 0, rfl, ⟨.inl rfl, .inl rfl⟩, below_alloc _ _⟩
  rw [results_cell_tmp rfl]
  go_simp

set_option maxRecDepth 10000 in
set_option maxHeartbeats 4000000 in
theorem decode_short (S : ByteArray) (w : World) (h : S.size ≤ 1007) :
    Calls Try.prog 16 #[.string S] w fun x w' => DecSaid (decodeN S) w x w' := by
  have hi := readN_its S h
  have hk := readN_kds S h
  have HD : Hid (decodeN S = if encodeN (readN S).1 = (S, 0) then ((readN S).1, 0) else (nd0, 60)) := by
    show _ = _
    unfold decodeN
    by_cases he : encodeN (readN S).1 = (S, 0)
    · rw [if_pos ⟨h, he⟩, if_pos he]
    · rw [if_neg (fun h => he h.2), if_neg he]
  have HRW := hide (fun g W w' hb hg hr => read_whole S g W w' hb hg hr (by omega))
  generalize readN S = N at *
  obtain ⟨n, LL, ee⟩ := N
  simp only at hi hk HD HRW
  have HP := hide (Nblk.new w false none none 0 0 0 0)
  have HB := hide (below_alloc w (.cells #[.bool false, .slice none 0 0, .slice none 0 0] 25))
  go_enter Try.func16, Try.ntmps16
  go_wp2_with fail
  obtain ⟨p, hp⟩ : ∃ y, y = w.heap.size := ⟨_, rfl⟩
  rw [← hp] at HP ⊢
  generalize w.alloc (.cells #[.bool false, .slice none 0 0, .slice none 0 0] 25) = w1 at *
  have hpw : w.heap.size ≤ p := Nat.le_of_eq hp.symm
  clear hp
  refine (read_new S w1).mono ?_
  rintro x w2 ⟨g, rfl, hg, hr, hb⟩
  have HG := hide (And.intro hg (And.intro hr hb))
  clear hg hr hb
  go_wp2_with fail
  refine (unhide HRW g w1 _ (unhide HG).2.2 (unhide HG).1 (unhide HG).2.1).mono ?_
  rintro x w3 ⟨ai, ak, ci, ck, rfl, hh, hb⟩
  have HB3 := hide hb
  have HH3 := hide hh
  have HP3 := hide ((unhide HP).below hb)
  clear hb hh HG HP
  go_wp2_with fail
  have HN := hide (Nblk.new w3 n.leaf ai ak n.its.length ci n.kds.length ck)
  have HB4 := hide (below_alloc w3 (.cells #[.bool n.leaf, .slice ai n.its.length ci, .slice ak n.kds.length ck] 25))
  obtain ⟨q, hq⟩ : ∃ y, y = w3.heap.size := ⟨_, rfl⟩
  rw [← hq] at HN ⊢
  generalize w3.alloc (.cells #[.bool n.leaf, .slice ai n.its.length ci, .slice ak n.kds.length ck] 25) = w4 at *
  clear hq
  refine (encode_any n ai ak ci ck w4 ((unhide HH3).grow (unhide HB4)) hi hk).mono ?_
  rintro x w5 ⟨rfl, hb⟩
  have hp5 := ((unhide HP3).below (unhide HB4)).below hb
  have hq5 := (unhide HN).below hb
  have HH5 := hide (((unhide HH3).grow (unhide HB4)).grow hb)
  have HB5 := hide (below_then (below_then (below_then (unhide HB) (unhide HB3)) (unhide HB4)) hb)
  have c0 := hp5.cell0
  have c1 := hp5.cell1
  have c2 := hp5.cell2
  have f0 := hp5.free 0
  have f1 := hp5.free 1
  have f2 := hp5.free 2
  have d0 := hq5.cell0
  have d1 := hq5.cell1
  have d2 := hq5.cell2
  have HP5 := hide hp5
  clear hb hp5 hq5 HB HB3 HB4 HH3 HP3 HN
  generalize encodeN n = E at *
  obtain ⟨T, er⟩ := E
  simp only
  by_cases her : er = 0
  · subst her
    by_cases hT : T = S
    · subst hT
      have hs := str_same T
      have hd : decodeN T = (n, 0) := by rw [unhide HD, if_pos rfl]
      clear HD
      have HD := hide hd
      clear hd
      go_wp2
      have hst := (unhide HP5).store n.leaf ai n.its.length ci ak n.kds.length ck (unhide HH5)
      refine bodyPost_ret (v := .tuple #[.agg #[.bool n.leaf, .slice ai n.its.length ci, .slice ak n.kds.length ck], .int .i64 0]) ?_ rfl ?_
      · rw [results_cell_tmp rfl]
        go_simp
      · rw [unhide HD]
        exact ⟨ai, ak, ci, ck, rfl, hst.2, below_store (below_store (below_store (unhide HB5) p 0 _ hpw) p 1 _ hpw) p 2 _ hpw⟩
    · have hs := str_neq hT
      have hd : decodeN S = (nd0, 60) := by rw [unhide HD, if_neg (fun e => hT (Prod.ext_iff.1 e).1)]
      have HD := hide hd
      clear hd hT
      go_wp2
      refine bodyPost_ret (v := .tuple #[.agg #[.bool false, .slice none 0 0, .slice none 0 0], .int .i64 60]) ?_ rfl ?_
      · rw [results_cell_tmp rfl]
        go_simp
      · rw [unhide HD]
        exact ⟨none, none, 0, 0, rfl, ⟨.inl rfl, .inl rfl⟩, below_store (below_store (below_store (unhide HB5) p 0 _ hpw) p 1 _ hpw) p 2 _ hpw⟩
  · have g0 : ((er : Int) == 0) = false := beq_eq_false_iff_ne.2 (by omega)
    have g1 : ((er : Int) != 0) = true := bne_iff_ne.2 (by omega)
    have hd : decodeN S = (nd0, 60) := by rw [unhide HD, if_neg (fun e => her (Prod.ext_iff.1 e).2)]
    have HD := hide hd
    clear hd her
    go_wp2
    refine bodyPost_ret (v := .tuple #[.agg #[.bool false, .slice none 0 0, .slice none 0 0], .int .i64 60]) ?_ rfl ?_
    · rw [results_cell_tmp rfl]
      go_simp
    · rw [unhide HD]
      exact ⟨none, none, 0, 0, rfl, ⟨.inl rfl, .inl rfl⟩, below_store (below_store (below_store (unhide HB5) p 0 _ hpw) p 1 _ hpw) p 2 _ hpw⟩

theorem decode_any (S : ByteArray) (w : World) : Calls Try.prog 16 #[.string S] w fun x w' => DecSaid (decodeN S) w x w' := by
  by_cases h : S.size ≤ 1007
  · exact decode_short S w h
  · have e : decodeN S = (nd0, 60) := by unfold decodeN; rw [if_neg (fun h' => h h'.1)]
    rw [e]
    exact decode_long S w (by omega)
end Go.Proofs.Ytepkifledonldaa
