/- Texts that the proof needs, one behind the other. -/
import Derived.Test.YtdelobaiicoogaaGreatDoorMay
import Derived.Test.YtdelobaiicoogaaGreatDoorMac
import Derived.Test.YtdelobaiicoogaaGreatDoorMap
import Derived.WalkSmall
/- A heap to which nodes were only put: what is held there is read, and its kids are held. Whether a tree there is right, as a plain function. -/
namespace Go.Proofs.YtdelobaiicoogaaGreatDoor

theorem cnt_heldAll : ∀ (ks : List Int) (l : List L5.St), (∀ k ∈ ks, 0 < cntL l k) → (∀ k ∈ ks, cntL l k + ks.count k ≤ 5000) → ∀ q, cntL (holdAll l ks) q = cntL l q + ks.count q
  | [], _, _, _, q => by simp [holdAll]
  | k :: r, l, h0, h1, q => by
    have hk0 := h0 k (List.mem_cons_self ..)
    have hk1 := h1 k (List.mem_cons_self ..)
    simp at hk1
    have hc : ∀ x, cntL (L5.holdM 2 l k) x = if x = k then cntL l k + 1 else cntL l x := fun x => cnt_hold l k x hk0 (by omega)
    have ih := cnt_heldAll r (L5.holdM 2 l k) (fun k' hk' => by
        rw [hc]
        split
        · omega
        · exact h0 k' (List.mem_cons_of_mem _ hk')) (fun k' hk' => by
        have := h1 k' (List.mem_cons_of_mem _ hk')
        rw [List.count_cons] at this
        rw [hc]
        split
        · rename_i e; subst e; simp at this; omega
        · rename_i e
          have e' : ¬ k = k' := fun h => e h.symm
          simp [e'] at this
          omega) q
    show cntL (holdAll (L5.holdM 2 l k) r) q = _
    rw [ih, hc, List.count_cons]
    by_cases e : q = k
    · subst e; simp; omega
    · have e' : ¬ k = q := fun h => e h.symm
      simp [e, e']
/-- nodes were only put to it, t at most -/
structure Sane (h : Hp) (t : Nat) : Prop where
  lit : Lit h.dk
  old : h.dk.old.length = 64
  len : h.al.length = 62
  gen : h.gen = 1
  few : h.dk.op.length ≤ t
  bare : h.bare
  get : ∀ q : Int, 0 < h.cnt q → (getR h q).2 = 0 ∧ ∀ x ∈ places (getR h q).1, 0 < h.cnt x
theorem cnt_newH (n : Nat) (x : Int) : (newH (L3.newM n) 1).cnt x = 0 := by
  show L5.cntS (L5.sec 2 (L5.newM 2 (L3.newM n).old.length) x) = 0
  by_cases hi : L5.In 2 (L5.newM 2 (L3.newM n).old.length) x
  · have h1 := L5.sec_at hi
    have h2 : L5.sec 2 (L5.newM 2 (L3.newM n).old.length) x = none := List.eq_of_mem_replicate (List.mem_of_getElem? h1)
    rw [h2]
    rfl
  · rw [L5.sec_none hi]
    rfl
theorem sane_new : Sane (newH (L3.newM 64) 1) 0 where
  lit := ⟨rfl, rfl⟩
  old := newM_len 64
  len := by
    show (L5.newM 2 (L3.newM 64).old.length).length = 62
    rw [newM_len]
    rfl
  gen := rfl
  few := Nat.le_refl 0
  bare := fun _ _ => rfl
  get := fun q hq => by rw [cnt_newH] at hq; exact absurd hq (Nat.lt_irrefl 0)
theorem sane_range {h : Hp} {t : Nat} (s : Sane h t) {q : Int} (hq : 0 < h.cnt q) : 2 ≤ q ∧ q < 64 := by
  have := cnt_in hq
  unfold L5.In at this
  rw [s.len] at this
  omega
theorem sane_put {h : Hp} {t : Nat} (s : Sane h t) (n : L6.Nd) : Sane (putR h n).2.2 (t + 1) := by
  have up : Sane h (t + 1) := { s with few := Nat.le_succ_of_le s.few }
  have hlen : 2 + h.al.length = h.dk.old.length := by rw [s.len, s.old]
  have g0 : 0 ≤ h.gen := by rw [s.gen]; decide
  have g1 : h.gen ≤ 1152921504606846976 := by rw [s.gen]; decide
  by_cases he : (L6.encodeN n).2 = 0
  · by_cases hm : mayE h.al (places n) = 0
    · cases hi : L5.takeI h.al with
      | none =>
        have ht : L5.takeE h.al ≠ 0 := by unfold L5.takeE; rw [hi]; decide
        have hst : storeR h (sectorN h.gen n) = (0, L5.takeE h.al, h) := by unfold storeR; rw [if_pos ht]
        have e : (putR h n).2.2 = h := by
          unfold putR
          rw [if_neg (fun hn => hn he), if_neg (fun hn => hn hm), hst]
          show (if L5.takeE h.al ≠ 0 then _ else _ : Int × Int × Hp).2.2 = h
          rw [if_pos ht]
        rw [e]
        exact up
      | some i =>
        rw [put_ok he hm hi s.lit hlen g0 g1]
        obtain ⟨hin, hs, _⟩ := take_at hi h.gen
        obtain ⟨m0, m1⟩ := mayE_zero hm
        have hz : cntL h.al ((2 : Int) + (i : Int)) = 0 := by unfold cntL; rw [hs]; rfl
        have hin' := hin
        unfold L5.In at hin'
        rw [s.len] at hin'
        have hnin : ((2 : Int) + (i : Int)) ∉ places n := fun hx => by have := m0 _ hx; omega
        have hku : ∀ k, cntL (L5.upd 2 h.al ((2 : Int) + (i : Int)) (some (1, h.gen))) k = if k = (2 : Int) + (i : Int) then 1 else cntL h.al k := fun k => cnt_upd hin
        have hkn : ∀ k ∈ places n, cntL (L5.upd 2 h.al ((2 : Int) + (i : Int)) (some (1, h.gen))) k = cntL h.al k := fun k hk => by
          rw [hku, if_neg]
          intro e
          rw [e] at hk
          exact hnin hk
        have hc := cnt_heldAll (places n) (L5.upd 2 h.al ((2 : Int) + (i : Int)) (some (1, h.gen))) (fun k hk => by rw [hkn k hk]; exact m0 k hk) (fun k hk => by rw [hkn k hk]; exact m1 k hk)
        show Sane { dk := { h.dk with op := h.dk.op ++ [(2 + i, sectorN h.gen n)] }, al := holdAll (L5.upd 2 h.al ((2 : Int) + (i : Int)) (some (1, h.gen))) (places n), gen := h.gen, kids := setK h.kids (2 + i) (places n) } (t + 1)
        obtain ⟨h', hh'⟩ : ∃ h', h' = ({ dk := { h.dk with op := h.dk.op ++ [(2 + i, sectorN h.gen n)] }, al := holdAll (L5.upd 2 h.al ((2 : Int) + (i : Int)) (some (1, h.gen))) (places n), gen := h.gen, kids := setK h.kids (2 + i) (places n) } : Hp) := ⟨_, rfl⟩
        rw [← hh']
        have hcn : ∀ q, h'.cnt q = (if q = (2 : Int) + (i : Int) then 1 else h.cnt q) + (places n).count q := fun q => by
          rw [hh']
          show cntL (holdAll _ _) q = _
          rw [hc, hku]
          rfl
        have up1 : ∀ q, 0 < h.cnt q → 0 < h'.cnt q := fun q hq => by
          rw [hcn]
          split <;> omega
        have hp : 0 < h'.cnt ((2 : Int) + (i : Int)) := by
          rw [hcn, if_pos rfl]
          omega
        have dn : ∀ q, 0 < h'.cnt q → q = (2 : Int) + (i : Int) ∨ 0 < h.cnt q := fun q hq => by
          by_cases e : q = (2 : Int) + (i : Int)
          · exact .inl e
          · right
            rw [hcn, if_neg e] at hq
            by_cases hk : q ∈ places n
            · exact m0 q hk
            · rw [List.count_eq_zero_of_not_mem hk] at hq
              omega
        have e2 : ((2 : Int) + (i : Int)).toNat = 2 + i := by omega
        have ho := s.old
        have rd : ∀ x, 0 ≤ x → x < 64 → L3.readM h'.dk x = if x = (2 : Int) + (i : Int) then (sectorN h.gen n, 0) else L3.readM h.dk x := fun x x0 x1 => by
          have := read_write (m := h.dk) s.lit (q := (2 : Int) + (i : Int)) (x := x) (S := sectorN h.gen n) (by omega) (by omega) x0 (by omega)
          rw [e2] at this
          rw [hh']
          exact this
        have gp : getR h' ((2 : Int) + (i : Int)) = (n, 0) := by
          have hr := rd ((2 : Int) + (i : Int)) (by omega) (by omega)
          rw [if_pos rfl] at hr
          have hn := nodeOf_sector (n := n) (g := h.gen) he g0 g1
          have hf : fetchM h'.dk ((2 : Int) + (i : Int)) = (n, h.gen, 0) := by
            unfold fetchM
            rw [hr]
            simp only [ne_eq, not_true_eq_false, if_false, hn]
          have a1 : ¬ h'.cnt ((2 : Int) + (i : Int)) = 0 := by omega
          unfold getR
          rw [if_neg a1, hf]
        have go : ∀ q, 0 < h.cnt q → getR h' q = getR h q := fun q hq => by
          have hq2 := sane_range s hq
          have hne : q ≠ (2 : Int) + (i : Int) := fun e => by rw [e] at hq; have : h.cnt ((2 : Int) + (i : Int)) = 0 := hz; omega
          have hr := rd q (by omega) hq2.2
          rw [if_neg hne] at hr
          have h1 := up1 q hq
          have a1 : ¬ h'.cnt q = 0 := by omega
          have a2 : ¬ h.cnt q = 0 := by omega
          have hf : fetchM h'.dk q = fetchM h.dk q := by
            unfold fetchM
            rw [hr]
          unfold getR
          rw [if_neg a1, if_neg a2, hf]
        refine ⟨?_, ?_, ?_, ?_, ?_, fun q hq => ?_, fun q hq => ?_⟩
        · rw [hh']; exact s.lit
        · rw [hh']; exact s.old
        · rw [hh']
          show (holdAll _ _).length = 62
          rw [length_holdAll, L5.upd_length]
          exact s.len
        · rw [hh']; exact s.gen
        · rw [hh']
          show (h.dk.op ++ _).length ≤ _
          rw [List.length_append]
          have := s.few
          simp only [List.length_singleton]
          omega
        · have h1 : ¬ (q : Int) = (2 : Int) + (i : Int) := fun e => by rw [e] at hq; omega
          have h2 : h.cnt (q : Int) = 0 := by
            by_cases h3 : 0 < h.cnt (q : Int)
            · have := up1 _ h3; omega
            · omega
          rw [hh']
          show setK h.kids (2 + i) (places n) q = []
          unfold setK
          rw [if_neg (by omega)]
          exact s.bare q h2
        · rcases dn q hq with e | h1
          · rw [e, gp]
            exact ⟨rfl, fun x hx => up1 x (m0 x hx)⟩
          · rw [go q h1]
            exact ⟨(s.get q h1).1, fun x hx => up1 x ((s.get q h1).2 x hx)⟩
    · have e : (putR h n).2.2 = h := by
        unfold putR
        rw [if_neg (fun hn => hn he), if_pos hm]
      rw [e]
      exact up
  · have e : (putR h n).2.2 = h := by
      unfold putR
      rw [if_pos he]
    rw [e]
    exact up

/-- what a search met -/
structure Sr where
  met : List Nat
  lv : Nat
  dp : Nat
structure Sr.Ok (st : Sr) : Prop where
  nd : st.met.Nodup
  lt : ∀ x ∈ st.met, x < 4096
theorem nodup_len : ∀ (n : Nat) (l : List Nat), l.Nodup → (∀ x ∈ l, x < n) → l.length ≤ n
  | 0, l, _, hl => by
    cases l with
    | nil => exact Nat.le_refl 0
    | cons a r => exact absurd (hl a List.mem_cons_self) (Nat.not_lt_zero _)
  | n + 1, l, hd, hl => by
    by_cases hm : n ∈ l
    · have h1 := nodup_len n (l.erase n) (hd.erase n) (fun x hx => by
        have h2 := (hd.mem_erase_iff).1 hx
        have := hl x h2.2
        have := h2.1
        omega)
      rw [List.length_erase_of_mem hm] at h1
      omega
    · exact Nat.le_succ_of_le (nodup_len n l hd (fun x hx => by
        have := hl x hx
        have : x ≠ n := fun e => hm (e ▸ hx)
        omega))
theorem Sr.Ok.len {st : Sr} (o : st.Ok) : st.met.length ≤ 4096 := nodup_len 4096 st.met o.nd o.lt
def maxB (a b : ByteArray) : ByteArray := if L6.less a b then b else a
def endB (r : List L6.Kd) (t : ByteArray) : ByteArray := match r with
  | [] => t
  | x :: _ => if pastB x.1 t then t else x.1
def stepK (go : Sr → Int → ByteArray → ByteArray → Bool × Sr) : Sr → List L6.Kd → ByteArray → ByteArray → Bool × Sr
  | st, [], _, _ => (true, st)
  | st, x :: r, fr, t => if (go st x.2 (maxB fr x.1) (endB r t)).1 = true then stepK go (go st x.2 (maxB fr x.1) (endB r t)).2 r fr t else (false, st)
def firstK (its : List L6.It) : ByteArray := match its[0]? with
  | some x => x.1
  | none => ⟨#[]⟩
def lastK (its : List L6.It) : ByteArray := match its[its.length - 1]? with
  | some x => x.1
  | none => ⟨#[]⟩
def Sr.come (st : Sr) (x : Int) (lvl : Nat) : Sr := ⟨x.toNat :: st.met, st.lv, max st.dp lvl⟩
/-- is a tree right, so deep, its keys from one on, below another one? -/
def rightR (h : Hp) : Nat → Sr → Nat → Int → ByteArray → ByteArray → Bool × Sr
  | 0, st, _, _, _, _ => (false, st)
  | f + 1, st, lvl, x, fr, t =>
    if x.toNat ∈ st.met ∨ 40 < lvl then (false, st)
    else if (getR h x).1.leaf = true then
      (if st.lv = 0 ∨ st.lv = lvl then (leafOkB (firstK (getR h x).1.its) (lastK (getR h x).1.its) fr t, ⟨x.toNat :: st.met, lvl, max st.dp lvl⟩) else (false, st))
    else stepK (fun s y a b => rightR h f s (lvl + 1) y a b) (st.come x lvl) (getR h x).1.kds fr t
/-- what Check answers -/
def checkR (h : Hp) (x : Int) : Int := if x = 0 then 0 else if h.cnt x = 0 then 51 else if (rightR h 42 ⟨[], 0, 0⟩ 1 x ⟨#[]⟩ ⟨#[]⟩).1 = true then 0 else 80

/-- where all was right the leaves were met, and nothing deeper -/
structure Ended (st st' : Sr) (lvl : Nat) : Prop where
  lv : st'.lv ≠ 0
  le : lvl ≤ st'.lv
  dp : st'.dp ≤ max st.dp st'.lv
  same : st.lv ≠ 0 → st'.lv = st.lv
  ok : st.Ok → st'.Ok
theorem come_ok {st : Sr} {x : Int} {lvl : Nat} (o : st.Ok) (hx : 0 ≤ x) (hx2 : x < 4096) (hn : x.toNat ∉ st.met) : (st.come x lvl).Ok :=
  ⟨List.nodup_cons.2 ⟨hn, o.nd⟩, fun y hy => by
    rcases List.mem_cons.1 hy with e | h1
    · omega
    · exact o.lt y h1⟩
theorem stepK_end {go : Sr → Int → ByteArray → ByteArray → Bool × Sr} {P : Int → Prop} {lvl : Nat} (hgo : ∀ st x a b, P x → (go st x a b).1 = true → Ended st (go st x a b).2 lvl) :
    ∀ (r : List L6.Kd) (st : Sr) (fr t : ByteArray), (∀ x ∈ r, P x.2) → (stepK go st r fr t).1 = true → (r = [] ∧ (stepK go st r fr t).2 = st) ∨ Ended st (stepK go st r fr t).2 lvl
  | [], st, fr, t, _, _ => .inl ⟨rfl, rfl⟩
  | x :: r, st, fr, t, hP, hT => by
    unfold stepK at hT ⊢
    by_cases h1 : (go st x.2 (maxB fr x.1) (endB r t)).1 = true
    · rw [if_pos h1] at hT ⊢
      have E := hgo st x.2 _ _ (hP x List.mem_cons_self) h1
      right
      rcases stepK_end hgo r _ fr t (fun y hy => hP y (List.mem_cons_of_mem _ hy)) hT with ⟨e, e2⟩ | E2
      · rw [e2]
        exact E
      · refine ⟨E2.lv, E2.le, ?_, fun h0 => (E2.same E.lv).trans (E.same h0), fun o => E2.ok (E.ok o)⟩
        have h2 := E2.same E.lv
        have h3 := E2.dp
        have h4 := E.dp
        rw [h2] at h3 ⊢
        omega
    · rw [if_neg h1] at hT
      exact absurd hT (by simp)
theorem rightR_end {h : Hp} {t : Nat} (s : Sane h t) : ∀ (f : Nat) (st : Sr) (lvl : Nat) (x : Int) (fr tt : ByteArray), 1 ≤ lvl → 0 < h.cnt x → (rightR h f st lvl x fr tt).1 = true → Ended st (rightR h f st lvl x fr tt).2 lvl
  | 0, st, lvl, x, fr, tt, _, _, hT => absurd hT (by unfold rightR; simp)
  | f + 1, st, lvl, x, fr, tt, h1, hx, hT => by
    have hr := sane_range s hx
    obtain ⟨g0, gk⟩ := s.get x hx
    obtain ⟨hR, _⟩ := getR_right g0
    unfold rightR at hT ⊢
    split at hT
    · exact absurd hT (by simp)
    · rename_i hc
      rw [if_neg hc]
      have hn : x.toNat ∉ st.met := fun e => hc (.inl e)
      split at hT
      · rename_i hl
        rw [if_pos hl]
        split at hT
        · rename_i hv
          rw [if_pos hv]
          refine ⟨by show lvl ≠ 0; omega, Nat.le_refl _, by show max st.dp lvl ≤ max st.dp lvl; exact Nat.le_refl _, fun h0 => ?_, fun o => ⟨(come_ok (lvl := lvl) o (by omega) (by omega) hn).nd, (come_ok (lvl := lvl) o (by omega) (by omega) hn).lt⟩⟩
          rcases hv with e | e
          · exact absurd e h0
          · exact e.symm
        · exact absurd hT (by simp)
      · rename_i hl
        rw [if_neg hl]
        have hl' : (getR h x).1.leaf = false := by simpa using hl
        have hk := right_kids hR hl'
        rcases stepK_end (P := fun y => 0 < h.cnt y) (lvl := lvl + 1) (fun st' y a b hy hT' => rightR_end s f st' (lvl + 1) y a b (by omega) hy hT') (getR h x).1.kds (st.come x lvl) fr tt (fun y hy => gk y.2 (List.mem_map.2 ⟨y, hy, rfl⟩)) hT with ⟨e, _⟩ | E
        · exact absurd e hk.2.1
        · refine ⟨E.lv, by have := E.le; omega, ?_, E.same, fun o => E.ok (come_ok o (by omega) (by omega) hn)⟩
          have h3 := E.dp
          have h4 := E.le
          have h5 : (st.come x lvl).dp = max st.dp lvl := rfl
          rw [h5] at h3
          omega
end Go.Proofs.YtdelobaiicoogaaGreatDoor

/- What the document's own reader answers, call by call: the same functions. -/
namespace Go.Proofs.YtdelobaiicoogaaGreatDoor.L4
open Go.ChangeShapes Go.WideShapes Go.ChangeAt Go.RowKit

/-- the document's reader in memory -/
def Rm (w : World) (r : Nat) (L : ByteArray) (e : Nat) : Prop := w.heap[r]? = some (.cells #[.string L, .int .i64 (e : Int)] 290 (0, 0))
theorem Rm.cell0 {w : World} {r e : Nat} {L : ByteArray} (h : Rm w r L e) : w.cell? ⟨r, 0, none⟩ = some (.string L) := by
  unfold Rm at h
  simp [World.cell?, h]
theorem Rm.cell1 {w : World} {r e : Nat} {L : ByteArray} (h : Rm w r L e) : w.cell? ⟨r, 1, none⟩ = some (.int .i64 (e : Int)) := by
  unfold Rm at h
  simp [World.cell?, h]
theorem Rm.free {w : World} {r e : Nat} {L : ByteArray} (h : Rm w r L e) (i : Nat) : w.frozen? ⟨r, i, none⟩ = false := by
  unfold Rm at h
  simp [World.frozen?, h]
theorem Rm.lt {w : World} {r e : Nat} {L : ByteArray} (h : Rm w r L e) : r < w.heap.size := (Array.getElem?_eq_some_iff.1 h).1
theorem Rm.setErr {w : World} {r e : Nat} {L : ByteArray} (h : Rm w r L e) (e' : Nat) : Rm (w.setCell ⟨r, 1, none⟩ (.int .i64 (e' : Int))) r L e' := by
  unfold Rm at *
  simp [World.setCell, Array.getElem?_modify, h]
theorem Rm.setLeft {w : World} {r e : Nat} {L : ByteArray} (h : Rm w r L e) (L' : ByteArray) : Rm (w.setCell ⟨r, 0, none⟩ (.string L')) r L' e := by
  unfold Rm at *
  simp [World.setCell, Array.getElem?_modify, h]
def ToldM (w w' : World) (r : Nat) (L : ByteArray) (e : Nat) : Prop := w.grownBy w' (some r) ∧ Rm w' r L e
theorem ToldM.refl {w : World} {r e : Nat} {L : ByteArray} (h : Rm w r L e) : ToldM w w r L e := ⟨grown_refl _ _, h⟩
theorem ToldM.err {w : World} {r e : Nat} {L : ByteArray} (h : Rm w r L e) (e' : Nat) : ToldM w (w.setCell ⟨r, 1, none⟩ (.int .i64 (e' : Int))) r L e' := ⟨grown_set _ _ _ _, h.setErr e'⟩
theorem ToldM.left {w : World} {r e : Nat} {L : ByteArray} (h : Rm w r L e) (L' : ByteArray) : ToldM w (w.setCell ⟨r, 0, none⟩ (.string L')) r L' e := ⟨grown_set _ _ _ _, h.setLeft L'⟩
theorem ToldM.both {w : World} {r e : Nat} {L : ByteArray} (h : Rm w r L e) (e' : Nat) (L' : ByteArray) : ToldM w ((w.setCell ⟨r, 1, none⟩ (.int .i64 (e' : Int))).setCell ⟨r, 0, none⟩ (.string L')) r L' e' :=
  ⟨grown_trans (grown_set _ _ _ _) (grown_set _ _ _ _), (h.setErr e').setLeft L'⟩

/- Fixed -/
set_option maxRecDepth 10000 in
set_option maxHeartbeats 1000000 in
theorem refFixedR_any (r e : Nat) (L : ByteArray) (w : World) (hr : Rm w r L e) (hL : L.size ≤ 1000000) :
    Calls Tryz.prog 170 #[.pointer (some ⟨r, 0, none⟩)] w fun x w' => x = .returned (.int .u64 ((fixedR L e).1 : Int)) ∧ ToldM w w' r (fixedR L e).2.1 (fixedR L e).2.2 := by
  have h0 := hr.cell0
  have h1 := hr.cell1
  have f0 := hr.free 0
  have f1 := hr.free 1
  have HR := hide hr
  clear hr
  unfold fixedR
  by_cases he : e ≠ 0
  · rw [if_pos he]
    have hne : ((e : Int) == 0) = false := beq_eq_false_iff_ne.2 (by omega)
    have hne2 : ((e : Int) != 0) = true := bne_iff_ne.2 (by omega)
    clear he
    go_enter Tryz.func170, Tryz.ntmps170
    go_wp2
    go_ret
    exact ⟨rfl, .refl (unhide HR)⟩
  · obtain rfl : e = 0 := by omega
    rw [if_neg he]
    clear he
    by_cases hz : L.size < 8
    · rw [if_pos hz]
      go_enter Tryz.func170, Tryz.ntmps170
      go_wp2
      go_ret
      exact ⟨rfl, .err (unhide HR) 20⟩
    · rw [if_neg hz]
      go_enter Tryz.func170, Tryz.ntmps170
      go_wp2
      go_loop [3, 4] (fun t j => ∃ i : Nat, i ≤ 8 ∧ j = .int .i64 i ∧ t = .int .u64 (Pk.fixN ((bn L).take i) : Nat)) (fun _ j => 8 - (intOf j).toNat)
      case atStart => exact ⟨0, by omega, rfl, rfl⟩
      case round =>
        obtain ⟨i, hi, rfl, rfl⟩ := hrel
        by_cases hlt : i < 8
        · have his : i < L.size := by omega
          have hb : (L[i].toNat : Int) < 256 := by have := L[i].toNat_lt; omega
          have hn := fix_bound L i (by omega)
          have HS : Hid (Pk.fixN ((bn L).take (i + 1)) = Pk.fixN ((bn L).take i) * 256 + L[i].toNat) := by
            show _ = _
            rw [take_snoc_bn L i his, Pk.fixN_snoc]
          generalize Pk.fixN ((bn L).take i) = n at *
          have HE := hide (or_byte n L[i].toNat hn (by omega))
          go_wp2
          go_round
          case rel => exact ⟨i + 1, by omega, by go_num, by rw [unhide HS]; exact int_eq (unhide HE)⟩
          case measure => simp [intOf]; omega
        · obtain rfl : i = 8 := by omega
          go_wp2
          go_ret
          exact ⟨rfl, .left (unhide HR) _⟩

theorem Rm.below {w w' : World} {r e : Nat} {L : ByteArray} (h : Rm w r L e) (hb : Below w.heap.size w w') : Rm w' r L e := (hb.block r h.lt).trans h
theorem Rm.new (w : World) (s : ByteArray) : Rm (w.alloc (.cells #[.string s, .int .i64 0] 290)) w.heap.size s 0 := heap_alloc_new w _
end Go.Proofs.YtdelobaiicoogaaGreatDoor.L4

/- What the document's Open does: the same. -/
namespace Go.Proofs.YtdelobaiicoogaaGreatDoor.L4
open Go.ChangeShapes Go.WideShapes Go.ChangeAt Go.RowKit

theorem or_u32 (a b i : Nat) (ha : a < 2 ^ i) (hb : b * 2 ^ i < 4294967296) (hi : i ≤ 32) : bits .or .u32 (a : Int) ((b * 2 ^ i : Nat) : Int) = ((a + b * 2 ^ i : Nat) : Int) := by
  have h32 : 2 ^ i ≤ 2 ^ 32 := Nat.pow_le_pow_right (by decide) hi
  rw [u32_or_nat a _ (by omega) hb]
  have := Nat.two_pow_add_eq_or_of_lt ha b
  rw [Nat.or_comm, Nat.mul_comm b, ← this, Nat.add_comm]
theorem num_or (a b c d : Nat) (ha : a < 256) (hb : b < 256) (hc : c < 256) (hd : d < 256) :
    bits .or .u32 (bits .or .u32 (bits .or .u32 (a : Int) ((b : Int) * 256)) ((c : Int) * 65536)) ((d : Int) * 16777216) = (Blk.num4 a b c d : Nat) := by
  have e1 := or_u32 a b 8 (by omega) (by omega) (by omega)
  have e2 := or_u32 (a + b * 2 ^ 8) c 16 (by omega) (by omega) (by omega)
  have e3 := or_u32 (a + b * 2 ^ 8 + c * 2 ^ 16) d 24 (by omega) (by omega) (by omega)
  have f1 : (b : Int) * 256 = ((b * 2 ^ 8 : Nat) : Int) := by simp
  have f2 : (c : Int) * 65536 = ((c * 2 ^ 16 : Nat) : Int) := by simp
  have f3 : (d : Int) * 16777216 = ((d * 2 ^ 24 : Nat) : Int) := by simp
  rw [f1, f2, f3, e1, e2, e3]
  rfl
theorem step_zero {S : ByteArray} {n j : Nat} (hz : ∀ q (hq : q < S.size), 13 + n ≤ q → q < j → S[q].toNat = 0) {hj : j < S.size} (h0 : S[j].toNat = 0) : ∀ q (hq : q < S.size), 13 + n ≤ q → q < j + 1 → S[q].toNat = 0 := by
  intro q hq h5 h6
  by_cases e : q = j
  · subst e
    exact h0
  · exact hz q hq h5 (by omega)

set_option maxHeartbeats 400000 in
theorem ropen_size (S : ByteArray) (w : World) (h : ¬ S.size = 1024) :
    Calls Tryz.prog 142 #[.string S] w fun e w' => e = .returned (.tuple #[.agg #[.int .i64 0, .int .i64 0, .string ⟨#[]⟩], .int .i64 32]) ∧ Below w.heap.size w w' := by
  have h1 : ((S.size : Int) == 1024) = false := beq_eq_false_iff_ne.2 (by omega)
  have h2 : ((S.size : Int) != 1024) = true := bne_iff_ne.2 (by omega)
  clear h
  go_enter Tryz.func142, Tryz.ntmps142
  go_wp2
  refine bodyPost_ret (v := .tuple #[.agg #[.int .i64 0, .int .i64 0, .string ⟨#[]⟩], .int .i64 32]) ?_ rfl ⟨rfl, ?_⟩
  · rw [results_cell_tmp rfl]
    go_simp
  · exact (Below.refl _ _).alloc (Nat.le_refl _) _

theorem rfix_step {W w3 : World} (h : Res W w3) (L : ByteArray) (G : Nat) (h8 : 8 ≤ L.size) (hL : L.size ≤ 1000000) (hG : Pk.fixN ((bn L).take 8) = G) :
    Calls Tryz.prog 170 #[.pointer (some ⟨w3.heap.size, 0, none⟩)] (w3.alloc (.cells #[.string L, .int .i64 0] 290)) fun e w' => e = .returned (.int .u64 (G : Int)) ∧ Res W w' := by
  have t := refFixedR_any w3.heap.size 0 L _ (Rm.new w3 L) hL
  have e : fixedR L 0 = (G, L.extract 8 L.size, 0) := by
    unfold fixedR
    rw [if_neg (by simp), if_neg (by omega), hG]
  rw [e] at t
  refine t.mono ?_
  rintro x w' ⟨rfl, ht⟩
  have hA : Res W (w3.alloc (.cells #[.string L, .int .i64 0] 290)) := h.then ((Below.refl _ _).alloc (Nat.le_refl _) _)
  have hlt : W.heap.size < w3.heap.size := (Array.getElem?_eq_some_iff.1 h.2).1
  refine ⟨rfl, hA.1.grown ht.1 hA.1.size (fun k hk => by cases hk; omega), (ht.1.block _ (by simp; omega) (fun e => by have := Option.some.inj e; omega)).trans hA.2⟩

set_option maxRecDepth 10000 in
set_option maxHeartbeats 1000000 in
theorem ropen_sum (S : ByteArray) (w : World) (x0 x1 x2 x3 : Nat) (h : S.size = 1024) (h0 : (S[1020]'(by omega)).toNat = x0) (h1 : (S[1021]'(by omega)).toNat = x1) (h2 : (S[1022]'(by omega)).toNat = x2) (h3 : (S[1023]'(by omega)).toNat = x3)
    (l0 : x0 < 256) (l1 : x1 < 256) (l2 : x2 < 256) (l3 : x3 < 256) (c : Nat) (hc : Crc.sum (bn (S.extract 0 1020)) = c) (hne : ¬ c = Blk.num4 x0 x1 x2 x3) :
    Calls Tryz.prog 142 #[.string S] w fun e w' => e = .returned (.tuple #[.agg #[.int .i64 0, .int .i64 0, .string ⟨#[]⟩], .int .i64 40]) ∧ Below w.heap.size w w' := by
  have hs := fun w' => refSum_any (S.extract 0 1020) w' (by rw [ByteArray.size_extract]; unfold maxLen; omega)
  rw [hc] at hs
  have HS := hide hs
  have hn := num_or x0 x1 x2 x3 l0 l1 l2 l3
  have q0 : (x0 : Int) % 4294967296 = x0 := by omega
  have q1 : (x1 : Int) % 4294967296 = x1 := by omega
  have q2 : (x2 : Int) % 4294967296 = x2 := by omega
  have q3 : (x3 : Int) % 4294967296 = x3 := by omega
  have p1 : (x1 : Int) * 256 % 4294967296 = x1 * 256 := by omega
  have p2 : (x2 : Int) * 65536 % 4294967296 = x2 * 65536 := by omega
  have p3 : (x3 : Int) * 16777216 % 4294967296 = x3 * 16777216 := by omega
  generalize Blk.num4 x0 x1 x2 x3 = N at *
  have b1 : ((c : Int) == (N : Int)) = false := beq_eq_false_iff_ne.2 (by omega)
  have b2 : ((c : Int) != (N : Int)) = true := bne_iff_ne.2 (by omega)
  clear hs hc hne
  go_enter Tryz.func142, Tryz.ntmps142
  go_wp2_with fail
  have HX := Res.new w
  generalize w.alloc (.cells #[.int .i64 0, .int .i64 0, .string ⟨#[]⟩] 90) = w1 at *
  have HX' := hide HX
  clear HX
  go_quiet (fail)
  have HY := hide ((unhide HX').then (below_drewN (Below.refl _ w1) nq))
  clear HX'
  generalize w1.drewN nq = w2 at *
  obtain ⟨c0, c1, c2, cf⟩ := (unhide HY).cells
  go_wp2_with (go_at_call 67; refine (unhide HS _).mono ?_; rintro e w3 ⟨rfl, hw⟩; have hw := hw.symm; subst hw)
  refine bodyPost_ret (v := .tuple #[.agg #[.int .i64 0, .int .i64 0, .string ⟨#[]⟩], .int .i64 40]) ?_ rfl ⟨rfl, ?_⟩
  · rw [results_cell_tmp rfl]
    go_simp
  · exact (unhide HY).set _ _ _
set_option maxRecDepth 10000 in
set_option maxHeartbeats 2000000 in
theorem ropen_prefix (S : ByteArray) (w : World) (x0 x1 x2 x3 y3 y4 n G : Nat) (h : S.size = 1024) (h0 : (S[1020]'(by omega)).toNat = x0) (h1 : (S[1021]'(by omega)).toNat = x1) (h2 : (S[1022]'(by omega)).toNat = x2) (h3 : (S[1023]'(by omega)).toNat = x3)
    (l0 : x0 < 256) (l1 : x1 < 256) (l2 : x2 < 256) (l3 : x3 < 256) (hc : Crc.sum (bn (S.extract 0 1020)) = Blk.num4 x0 x1 x2 x3)
    (g3 : (S[3]'(by omega)).toNat = y3) (g4 : (S[4]'(by omega)).toNat = y4) (k3 : y3 < 256) (k4 : y4 < 256) (hn : y3 * 256 + y4 = n) (hG : Pk.fixN ((bn (S.extract 5 13)).take 8) = G) (A : ByteArray) (hA : S.extract 0 2 = A) (hp : ¬ A = ⟨#[67, 80]⟩) :
    Calls Tryz.prog 142 #[.string S] w fun e w' => e = .returned (.tuple #[.agg #[.int .i64 0, .int .i64 0, .string ⟨#[]⟩], .int .i64 21]) ∧ Below w.heap.size w w' := by
  have hs := fun w' => refSum_any (S.extract 0 1020) w' (by rw [ByteArray.size_extract]; unfold maxLen; omega)
  rw [hc] at hs
  have HS := hide hs
  have hnn := num_or x0 x1 x2 x3 l0 l1 l2 l3
  have q0 : (x0 : Int) % 4294967296 = x0 := by omega
  have q1 : (x1 : Int) % 4294967296 = x1 := by omega
  have q2 : (x2 : Int) % 4294967296 = x2 := by omega
  have q3 : (x3 : Int) % 4294967296 = x3 := by omega
  have p1 : (x1 : Int) * 256 % 4294967296 = x1 * 256 := by omega
  have p2 : (x2 : Int) * 65536 % 4294967296 = x2 * 65536 := by omega
  have p3 : (x3 : Int) * 16777216 % 4294967296 = x3 * 16777216 := by omega
  generalize Blk.num4 x0 x1 x2 x3 = N at *
  have ho := or_i64 y3 y4 k3 k4
  rw [hn] at ho
  have hv : (y3 : Int) * 256 + (y4 : Int) = (n : Int) := by omega
  have HG := hide (fun w' (hr : Res w w') => rfix_step hr (S.extract 5 13) G (by rw [ByteArray.size_extract]; omega) (by rw [ByteArray.size_extract]; omega) hG)
  clear hs hc hG hn
  have hq1 := str_ne hp
  have hq2 : (A.toList == [67, 80]) = false := by
    have e : (⟨#[67, 80]⟩ : ByteArray).toList = [67, 80] := by rw [ByteArray.toList_eq]
    rw [← e]
    exact hq1
  clear hp
  go_enter Tryz.func142, Tryz.ntmps142
  go_wp2_with fail
  have HX := Res.new w
  generalize w.alloc (.cells #[.int .i64 0, .int .i64 0, .string ⟨#[]⟩] 90) = w1 at *
  have HX' := hide HX
  clear HX
  go_quiet (fail)
  have HY := hide ((unhide HX').then (below_drewN (Below.refl _ w1) nq))
  clear HX'
  generalize w1.drewN nq = w2 at *
  go_wp2_with (go_at_call 67; refine (unhide HS _).mono ?_; rintro e w3 ⟨rfl, hw⟩; have hw := hw.symm; subst hw)
  go_quiet (fail)
  have HZ := hide ((unhide HY).then (below_drewN (Below.refl _ w2) nq))
  clear HY
  generalize w2.drewN nq = w3 at *
  clear hnn q0 q1 q2 q3 p1 p2 p3 hv ho h0 h1 h2 h3
  go_wp2_with (go_at_call 170; refine (unhide HG _ (unhide HZ)).mono ?_; rintro e w4 ⟨rfl, h4⟩; have H4 := hide h4; obtain ⟨c0, c1, c2, cf⟩ := h4.cells; clear h4)
  refine bodyPost_ret (v := .tuple #[.agg #[.int .i64 0, .int .i64 0, .string ⟨#[]⟩], .int .i64 21]) ?_ rfl ⟨rfl, ?_⟩
  · rw [results_cell_tmp rfl]
    go_simp
  · exact (unhide H4).set _ _ _

set_option maxRecDepth 10000 in
set_option maxHeartbeats 2000000 in
theorem ropen_long (S : ByteArray) (w : World) (x0 x1 x2 x3 y3 y4 n G : Nat) (h : S.size = 1024) (h0 : (S[1020]'(by omega)).toNat = x0) (h1 : (S[1021]'(by omega)).toNat = x1) (h2 : (S[1022]'(by omega)).toNat = x2) (h3 : (S[1023]'(by omega)).toNat = x3)
    (l0 : x0 < 256) (l1 : x1 < 256) (l2 : x2 < 256) (l3 : x3 < 256) (hc : Crc.sum (bn (S.extract 0 1020)) = Blk.num4 x0 x1 x2 x3)
    (g3 : (S[3]'(by omega)).toNat = y3) (g4 : (S[4]'(by omega)).toNat = y4) (k3 : y3 < 256) (k4 : y4 < 256) (hn : y3 * 256 + y4 = n) (hG : Pk.fixN ((bn (S.extract 5 13)).take 8) = G) (hA : S.extract 0 2 = ⟨#[67, 80]⟩) (hn7 : 1007 < n) :
    Calls Tryz.prog 142 #[.string S] w fun e w' => e = .returned (.tuple #[.agg #[.int .i64 0, .int .i64 0, .string ⟨#[]⟩], .int .i64 21]) ∧ Below w.heap.size w w' := by
  have hs := fun w' => refSum_any (S.extract 0 1020) w' (by rw [ByteArray.size_extract]; unfold maxLen; omega)
  rw [hc] at hs
  have HS := hide hs
  have hnn := num_or x0 x1 x2 x3 l0 l1 l2 l3
  have q0 : (x0 : Int) % 4294967296 = x0 := by omega
  have q1 : (x1 : Int) % 4294967296 = x1 := by omega
  have q2 : (x2 : Int) % 4294967296 = x2 := by omega
  have q3 : (x3 : Int) % 4294967296 = x3 := by omega
  have p1 : (x1 : Int) * 256 % 4294967296 = x1 * 256 := by omega
  have p2 : (x2 : Int) * 65536 % 4294967296 = x2 * 65536 := by omega
  have p3 : (x3 : Int) * 16777216 % 4294967296 = x3 * 16777216 := by omega
  generalize Blk.num4 x0 x1 x2 x3 = N at *
  have ho := or_i64 y3 y4 k3 k4
  rw [hn] at ho
  have hv : (y3 : Int) * 256 + (y4 : Int) = (n : Int) := by omega
  have HG := hide (fun w' (hr : Res w w') => rfix_step hr (S.extract 5 13) G (by rw [ByteArray.size_extract]; omega) (by rw [ByteArray.size_extract]; omega) hG)
  clear hs hc hG hn
  have i1 : (1007 : Int) < (n : Int) := by omega
  go_enter Tryz.func142, Tryz.ntmps142
  go_wp2_with fail
  have HX := Res.new w
  generalize w.alloc (.cells #[.int .i64 0, .int .i64 0, .string ⟨#[]⟩] 90) = w1 at *
  have HX' := hide HX
  clear HX
  go_quiet (fail)
  have HY := hide ((unhide HX').then (below_drewN (Below.refl _ w1) nq))
  clear HX'
  generalize w1.drewN nq = w2 at *
  go_wp2_with (go_at_call 67; refine (unhide HS _).mono ?_; rintro e w3 ⟨rfl, hw⟩; have hw := hw.symm; subst hw)
  go_quiet (fail)
  have HZ := hide ((unhide HY).then (below_drewN (Below.refl _ w2) nq))
  clear HY
  generalize w2.drewN nq = w3 at *
  clear hnn q0 q1 q2 q3 p1 p2 p3 hv ho h0 h1 h2 h3
  go_wp2_with (go_at_call 170; refine (unhide HG _ (unhide HZ)).mono ?_; rintro e w4 ⟨rfl, h4⟩; have H4 := hide h4; obtain ⟨c0, c1, c2, cf⟩ := h4.cells; clear h4)
  refine bodyPost_ret (v := .tuple #[.agg #[.int .i64 0, .int .i64 0, .string ⟨#[]⟩], .int .i64 21]) ?_ rfl ⟨rfl, ?_⟩
  · rw [results_cell_tmp rfl]
    go_simp
  · exact (unhide H4).set _ _ _

set_option maxRecDepth 10000 in
set_option maxHeartbeats 2000000 in
theorem ropen_gen (S : ByteArray) (w : World) (x0 x1 x2 x3 y3 y4 n G : Nat) (h : S.size = 1024) (h0 : (S[1020]'(by omega)).toNat = x0) (h1 : (S[1021]'(by omega)).toNat = x1) (h2 : (S[1022]'(by omega)).toNat = x2) (h3 : (S[1023]'(by omega)).toNat = x3)
    (l0 : x0 < 256) (l1 : x1 < 256) (l2 : x2 < 256) (l3 : x3 < 256) (hc : Crc.sum (bn (S.extract 0 1020)) = Blk.num4 x0 x1 x2 x3)
    (g3 : (S[3]'(by omega)).toNat = y3) (g4 : (S[4]'(by omega)).toNat = y4) (k3 : y3 < 256) (k4 : y4 < 256) (hn : y3 * 256 + y4 = n) (hG : Pk.fixN ((bn (S.extract 5 13)).take 8) = G) (hA : S.extract 0 2 = ⟨#[67, 80]⟩) (hn7 : n ≤ 1007) (hg : 1152921504606846976 < G) :
    Calls Tryz.prog 142 #[.string S] w fun e w' => e = .returned (.tuple #[.agg #[.int .i64 0, .int .i64 0, .string ⟨#[]⟩], .int .i64 21]) ∧ Below w.heap.size w w' := by
  have hs := fun w' => refSum_any (S.extract 0 1020) w' (by rw [ByteArray.size_extract]; unfold maxLen; omega)
  rw [hc] at hs
  have HS := hide hs
  have hnn := num_or x0 x1 x2 x3 l0 l1 l2 l3
  have q0 : (x0 : Int) % 4294967296 = x0 := by omega
  have q1 : (x1 : Int) % 4294967296 = x1 := by omega
  have q2 : (x2 : Int) % 4294967296 = x2 := by omega
  have q3 : (x3 : Int) % 4294967296 = x3 := by omega
  have p1 : (x1 : Int) * 256 % 4294967296 = x1 * 256 := by omega
  have p2 : (x2 : Int) * 65536 % 4294967296 = x2 * 65536 := by omega
  have p3 : (x3 : Int) * 16777216 % 4294967296 = x3 * 16777216 := by omega
  generalize Blk.num4 x0 x1 x2 x3 = N at *
  have ho := or_i64 y3 y4 k3 k4
  rw [hn] at ho
  have hv : (y3 : Int) * 256 + (y4 : Int) = (n : Int) := by omega
  have HG := hide (fun w' (hr : Res w w') => rfix_step hr (S.extract 5 13) G (by rw [ByteArray.size_extract]; omega) (by rw [ByteArray.size_extract]; omega) hG)
  clear hs hc hG hn
  have i1 : ¬ (1007 : Int) < (n : Int) := by omega
  have i2 : (1152921504606846976 : Int) < (G : Int) := by omega
  go_enter Tryz.func142, Tryz.ntmps142
  go_wp2_with fail
  have HX := Res.new w
  generalize w.alloc (.cells #[.int .i64 0, .int .i64 0, .string ⟨#[]⟩] 90) = w1 at *
  have HX' := hide HX
  clear HX
  go_quiet (fail)
  have HY := hide ((unhide HX').then (below_drewN (Below.refl _ w1) nq))
  clear HX'
  generalize w1.drewN nq = w2 at *
  go_wp2_with (go_at_call 67; refine (unhide HS _).mono ?_; rintro e w3 ⟨rfl, hw⟩; have hw := hw.symm; subst hw)
  go_quiet (fail)
  have HZ := hide ((unhide HY).then (below_drewN (Below.refl _ w2) nq))
  clear HY
  generalize w2.drewN nq = w3 at *
  clear hnn q0 q1 q2 q3 p1 p2 p3 hv ho h0 h1 h2 h3
  go_wp2_with (go_at_call 170; refine (unhide HG _ (unhide HZ)).mono ?_; rintro e w4 ⟨rfl, h4⟩; have H4 := hide h4; obtain ⟨c0, c1, c2, cf⟩ := h4.cells; clear h4)
  refine bodyPost_ret (v := .tuple #[.agg #[.int .i64 0, .int .i64 0, .string ⟨#[]⟩], .int .i64 21]) ?_ rfl ⟨rfl, ?_⟩
  · rw [results_cell_tmp rfl]
    go_simp
  · exact (unhide H4).set _ _ _

set_option maxRecDepth 10000 in
set_option maxHeartbeats 2000000 in
theorem ropen_loop (S : ByteArray) (w : World) (x0 x1 x2 x3 y3 y4 n G : Nat) (h : S.size = 1024) (h0 : (S[1020]'(by omega)).toNat = x0) (h1 : (S[1021]'(by omega)).toNat = x1) (h2 : (S[1022]'(by omega)).toNat = x2) (h3 : (S[1023]'(by omega)).toNat = x3)
    (l0 : x0 < 256) (l1 : x1 < 256) (l2 : x2 < 256) (l3 : x3 < 256) (hc : Crc.sum (bn (S.extract 0 1020)) = Blk.num4 x0 x1 x2 x3)
    (g3 : (S[3]'(by omega)).toNat = y3) (g4 : (S[4]'(by omega)).toNat = y4) (k3 : y3 < 256) (k4 : y4 < 256) (hn : y3 * 256 + y4 = n) (hG : Pk.fixN ((bn (S.extract 5 13)).take 8) = G) (y2 : Nat) (k2 : y2 < 256) (T : Int × Int × ByteArray × Nat) (g2 : (S[2]'(by omega)).toNat = y2) (hA : S.extract 0 2 = ⟨#[67, 80]⟩) (hn7 : n ≤ 1007) (hg : G ≤ 1152921504606846976)
    (hb : ∀ j (hj : j < S.size), 13 + n ≤ j → j < 1020 → 0 < S[j].toNat → T = (0, 0, ⟨#[]⟩, 21)) (hok : (∀ j (hj : j < S.size), 13 + n ≤ j → j < 1020 → S[j].toNat = 0) → T = ((y2 : Int), (G : Int), S.extract 13 (13 + n), 0)) :
    Calls Tryz.prog 142 #[.string S] w fun e w' => e = .returned (opened T) ∧ Below w.heap.size w w' := by
  have hs := fun w' => refSum_any (S.extract 0 1020) w' (by rw [ByteArray.size_extract]; unfold maxLen; omega)
  rw [hc] at hs
  have HS := hide hs
  have hnn := num_or x0 x1 x2 x3 l0 l1 l2 l3
  have q0 : (x0 : Int) % 4294967296 = x0 := by omega
  have q1 : (x1 : Int) % 4294967296 = x1 := by omega
  have q2 : (x2 : Int) % 4294967296 = x2 := by omega
  have q3 : (x3 : Int) % 4294967296 = x3 := by omega
  have p1 : (x1 : Int) * 256 % 4294967296 = x1 * 256 := by omega
  have p2 : (x2 : Int) * 65536 % 4294967296 = x2 * 65536 := by omega
  have p3 : (x3 : Int) * 16777216 % 4294967296 = x3 * 16777216 := by omega
  generalize Blk.num4 x0 x1 x2 x3 = N at *
  have ho := or_i64 y3 y4 k3 k4
  rw [hn] at ho
  have hv : (y3 : Int) * 256 + (y4 : Int) = (n : Int) := by omega
  have HG := hide (fun w' (hr : Res w w') => rfix_step hr (S.extract 5 13) G (by rw [ByteArray.size_extract]; omega) (by rw [ByteArray.size_extract]; omega) hG)
  clear hs hc hG hn
  have i1 : ¬ (1007 : Int) < (n : Int) := by omega
  have i2 : ¬ (1152921504606846976 : Int) < (G : Int) := by omega
  have HB := hide hb
  have HO := hide hok
  clear hb hok
  go_enter Tryz.func142, Tryz.ntmps142
  go_wp2_with fail
  have HX := Res.new w
  generalize w.alloc (.cells #[.int .i64 0, .int .i64 0, .string ⟨#[]⟩] 90) = w1 at *
  have HX' := hide HX
  clear HX
  go_quiet (fail)
  have HY := hide ((unhide HX').then (below_drewN (Below.refl _ w1) nq))
  clear HX'
  generalize w1.drewN nq = w2 at *
  go_wp2_with (go_at_call 67; refine (unhide HS _).mono ?_; rintro e w3 ⟨rfl, hw⟩; have hw := hw.symm; subst hw)
  go_quiet (fail)
  have HZ := hide ((unhide HY).then (below_drewN (Below.refl _ w2) nq))
  clear HY
  generalize w2.drewN nq = w3 at *
  clear hnn q0 q1 q2 q3 p1 p2 p3 hv ho h0 h1 h2 h3
  go_wp2_with (go_at_call 170; refine (unhide HG _ (unhide HZ)).mono ?_; rintro e w4 ⟨rfl, h4⟩; have H4 := hide h4; obtain ⟨c0, c1, c2, cf⟩ := h4.cells; clear h4)
  go_loop [8] (fun i => ∃ j : Nat, 13 + n ≤ j ∧ j ≤ 1020 ∧ i = .int .i64 j ∧ ∀ q (hq : q < S.size), 13 + n ≤ q → q < j → S[q].toNat = 0) (fun i => 1020 - (intOf i).toNat)
  case atStart => exact ⟨13 + n, Nat.le_refl _, by omega, by go_num, fun q _ h5 h6 => absurd h6 (by omega)⟩
  case round =>
    obtain ⟨j, hj1, hj2, rfl, hz⟩ := hrel
    have HQ := hide hz
    clear hz
    by_cases hlt : j < 1020
    · have hjs : j < S.size := by omega
      have hb256 : (S[j].toNat : Int) < 256 := by have := S[j].toNat_lt; omega
      by_cases h0 : 0 < S[j].toNat
      · have HE := hide (unhide HB j hjs hj1 hlt h0)
        have e1 : ((S[j].toNat : Int) == 0) = false := beq_eq_false_iff_ne.2 (by omega)
        have e2 : ((S[j].toNat : Int) != 0) = true := bne_iff_ne.2 (by omega)
        clear HB HO HQ
        go_wp2
        refine bodyPost_ret (v := opened T) ?_ rfl ⟨rfl, (unhide H4).set _ _ _⟩
        rw [unhide HE, results_cell_tmp rfl]
        go_simp
        rfl
      · have h0' : S[j].toNat = 0 := by omega
        have HE := hide (step_zero (unhide HQ) h0')
        clear h0 HB HO HQ
        go_wp2
        go_round
        case rel => exact ⟨j + 1, by omega, by omega, by go_num, unhide HE⟩
        case measure => simp [intOf]; omega
    · have hj : j = 1020 := by omega
      have HE := hide (unhide HO (fun q hq h5 h6 => unhide HQ q hq h5 (by omega)))
      subst hj
      clear HB HO HQ
      have i5 : IntKind.i64.wrap (G : Int) = (G : Int) := by rw [IntKind.wrap_i64]; omega
      have i6 : (13 : Int) + (n : Int) ≤ 1024 := by omega
      have i7 : (13 : Int) ≤ 13 + (n : Int) := by omega
      go_wp2_with fail
      go_region
      all_goals go_wp2
      all_goals refine bodyPost_ret (v := opened T) ?_ rfl ⟨rfl, ?_⟩
      · rw [unhide HE, results_cell_tmp rfl]
        go_simp
        rfl
      · exact ((unhide H4).set _ _ _).drew

end Go.Proofs.YtdelobaiicoogaaGreatDoor.L4
