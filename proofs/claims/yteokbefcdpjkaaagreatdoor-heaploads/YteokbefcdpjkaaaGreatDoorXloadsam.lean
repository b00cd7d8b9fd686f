/- Texts that the proof needs, one behind the other. -/
import Derived.Test.YteokbefcdpjkaaaGreatDoorXloadsal
import Derived.Test.YteokbefcdpjkaaaGreatDoorMai
/- Plain mathematics of a heap: who holds a place: those outside, and the kids that lead to it. -/
namespace Go.Proofs.YteokbefcdpjkaaaGreatDoor

theorem sum_upd (g g' : Nat → Nat) (p : Nat) (he : ∀ q, q ≠ p → g' q = g q) : ∀ n, p < n → ((List.range n).map g').sum + g p = ((List.range n).map g).sum + g' p := by
  have hlow : ∀ n, n ≤ p → ((List.range n).map g').sum = ((List.range n).map g).sum := by
    intro n
    induction n with
    | zero => intro _; rfl
    | succ n ih =>
      intro h
      rw [List.range_succ, List.map_append, List.map_append, List.sum_append, List.sum_append, ih (by omega)]
      simp only [List.map_cons, List.map_nil, List.sum_cons, List.sum_nil]
      rw [he n (by omega)]
  intro n
  induction n with
  | zero => intro h; omega
  | succ n ih =>
    intro h
    rw [List.range_succ, List.map_append, List.map_append, List.sum_append, List.sum_append]
    simp only [List.map_cons, List.map_nil, List.sum_cons, List.sum_nil]
    by_cases e : n = p
    · subst e
      rw [hlow n (Nat.le_refl _)]
      omega
    · have := ih (by omega)
      rw [he n e]
      omega
/-- how often kids lead to a place -/
def refs (m : Nat) (k : Nat → List Int) (x : Int) : Nat := ((List.range m).map (fun q => (k q).count x)).sum
theorem refs_setK (m : Nat) (k : Nat → List Int) (p : Nat) (hp : p < m) (l : List Int) (x : Int) : refs m (setK k p l) x + (k p).count x = refs m k x + l.count x := by
  have := sum_upd (fun q => (k q).count x) (fun q => (setK k p l q).count x) p (fun q hq => by simp [setK, hq]) m hp
  simpa [refs, setK] using this
theorem refs_pos {m : Nat} {k : Nat → List Int} {q : Nat} (hq : q < m) {x : Int} (hx : x ∈ k q) : 0 < refs m k x := by
  have h1 := refs_setK m k q hq [] x
  have h2 := List.count_pos_iff.2 hx
  simp at h1
  omega
theorem refs_none (m : Nat) (x : Int) : refs m (fun _ => []) x = 0 := by
  unfold refs
  induction m with
  | zero => rfl
  | succ m ih => rw [List.range_succ, List.map_append, List.sum_append, ih]; simp
theorem refs_from {k : Nat → List Int} {x : Int} : ∀ m, 0 < refs m k x → ∃ q, q < m ∧ x ∈ k q := by
  intro m
  induction m with
  | zero => intro h; exact absurd h (by simp [refs])
  | succ m ih =>
    intro h
    unfold refs at h
    rw [List.range_succ, List.map_append, List.sum_append] at h
    simp only [List.map_cons, List.map_nil, List.sum_cons, List.sum_nil] at h
    by_cases h0 : 0 < (k m).count x
    · exact ⟨m, by omega, List.count_pos_iff.1 h0⟩
    · obtain ⟨q, hq, hx⟩ := ih (by unfold refs; omega)
      exact ⟨q, by omega, hx⟩
variable {m : Nat}
def one (p x : Int) : Nat := if x = p then 1 else 0
structure Bal (m : Nat) (h : Hp) (out : Int → Nat) : Prop where
  bare : h.bare
  bal : ∀ x, h.cnt x = out x + refs m h.kids x
theorem Bal.congr {h : Hp} {out out' : Int → Nat} (b : Bal m h out) (e : ∀ x, out x = out' x) : Bal m h out' := ⟨b.bare, fun x => by rw [← e]; exact b.bal x⟩
theorem in_lt {l : List L5.St} {p : Int} (ok : L5.Ok 2 l) (h : 0 < cntL l p) : 2 ≤ p ∧ p < 4096 ∧ p.toNat < 4096 ∧ ((p.toNat : Nat) : Int) = p := by
  have hi := cnt_in h
  have hf := ok.few
  unfold L5.In at hi
  omega
theorem ok_drop {h : Hp} (ok : L5.Ok 2 h.al) (g64 : L5.I64 h.gen) (p : Int) : L5.Ok 2 (L5.dropM 2 h.al p h.gen) := ok.drop p g64

theorem drop_all (f : Nat) : ∀ (h : Hp) (p : Int), L5.Ok 2 h.al → L5.I64 h.gen → L5.Ok 2 (dropH f h p).al ∧ (dropH f h p).gen = h.gen ∧ (dropH f h p).dk = h.dk ∧ (dropH f h p).al.length = h.al.length := by
  induction f with
  | zero => intro h p ok _; exact ⟨ok, rfl, rfl, rfl⟩
  | succ f ih =>
    intro h p ok g64
    have hf : ∀ (ks : List Int) (h : Hp), L5.Ok 2 h.al → L5.I64 h.gen → L5.Ok 2 (ks.foldl (dropH f) h).al ∧ (ks.foldl (dropH f) h).gen = h.gen ∧ (ks.foldl (dropH f) h).dk = h.dk ∧ (ks.foldl (dropH f) h).al.length = h.al.length := by
      intro ks
      induction ks with
      | nil => intro h ok _; exact ⟨ok, rfl, rfl, rfl⟩
      | cons k r ihr =>
        intro h ok g64
        obtain ⟨h1, h2, h3, h4⟩ := ih h k ok g64
        obtain ⟨k1, k2, k3, k4⟩ := ihr (dropH f h k) h1 (by rw [h2]; exact g64)
        exact ⟨k1, k2.trans h2, k3.trans h3, k4.trans h4⟩
    unfold dropH
    split
    · exact ⟨ok, rfl, rfl, rfl⟩
    · split
      · exact ⟨ok.drop p g64, rfl, rfl, length_drop _ _ _⟩
      · obtain ⟨k1, k2, k3, k4⟩ := hf (h.kids p.toNat) { h with al := L5.dropM 2 h.al p h.gen, kids := setK h.kids p.toNat [] } (ok.drop p g64) g64
        exact ⟨k1, k2, k3, k4.trans (length_drop _ _ _)⟩

theorem drop_bal (hm4 : 4096 ≤ m) (f : Nat) : ∀ (h : Hp) (out : Int → Nat) (p : Int), Bal m h out → L5.Ok 2 h.al → L5.I64 h.gen → 0 < out p → heldL h.al < f → Bal m (dropH f h p) (fun x => out x - one p x) := by
  induction f with
  | zero => intro h out p _ _ _ _ hh; omega
  | succ f ih =>
    intro h out p b ok g64 ho hh
    have hfold : ∀ (ks : List Int) (h : Hp) (o : Int → Nat), Bal m h (fun x => o x + ks.count x) → L5.Ok 2 h.al → L5.I64 h.gen → heldL h.al < f → Bal m (ks.foldl (dropH f) h) o := by
      intro ks
      induction ks with
      | nil => intro h o b _ _ _; exact b.congr (fun x => by simp)
      | cons k r ihr =>
        intro h o b ok g64 hh
        have hk := ih h _ k b ok g64 (by simp; omega) hh
        obtain ⟨h1, h2, _, _⟩ := drop_all f h k ok g64
        refine ihr (dropH f h k) o (hk.congr (fun x => ?_)) h1 (by rw [h2]; exact g64) (Nat.lt_of_le_of_lt (held_dropH f h k) hh)
        simp only [List.count_cons, one]
        by_cases e : x = k
        · subst e; simp
        · have e' : ¬ k = x := fun h => e h.symm
          simp [e, e']
    have hcp := b.bal p
    have hpos : 0 < h.cnt p := by omega
    obtain ⟨p2, p4, pn, pe⟩ := in_lt ok hpos
    unfold dropH
    rw [if_neg (by omega)]
    have hcd : ∀ x, cntL (L5.dropM 2 h.al p h.gen) x = if x = p then h.cnt p - 1 else h.cnt x := fun x => cnt_drop h.al p x h.gen
    split
    · rename_i hpos'
      rw [hcd, if_pos rfl] at hpos'
      refine ⟨fun q hq => ?_, fun x => ?_⟩
      · have hq' : cntL (L5.dropM 2 h.al p h.gen) (q : Int) = 0 := hq
        rw [hcd] at hq'
        split at hq'
        · omega
        · exact b.bare q hq'
      · show cntL (L5.dropM 2 h.al p h.gen) x = _
        rw [hcd]
        have := b.bal x
        unfold one
        split
        · rename_i e; subst e; show _ = out x - 1 + refs m h.kids x; omega
        · show _ = out x - 0 + refs m h.kids x; omega
    · rename_i hz
      rw [hcd, if_pos rfl] at hz
      refine hfold _ _ _ ⟨fun q hq => ?_, fun x => ?_⟩ (ok.drop p g64) g64 ?_
      · have hq' : cntL (L5.dropM 2 h.al p h.gen) (q : Int) = 0 := hq
        rw [hcd] at hq'
        show setK h.kids p.toNat [] q = []
        unfold setK
        split
        · rfl
        · rename_i hne
          rw [if_neg (by omega)] at hq'
          exact b.bare q hq'
      · show cntL (L5.dropM 2 h.al p h.gen) x = out x - one p x + (h.kids p.toNat).count x + refs m (setK h.kids p.toNat []) x
        rw [hcd]
        have h1 := b.bal x
        have h2 := refs_setK m h.kids p.toNat (by omega) [] x
        simp at h2
        unfold one
        split
        · rename_i e; subst e; omega
        · omega
      · have := held_drop_last h.al p h.gen hpos (by rw [hcd, if_pos rfl]; omega)
        show heldL (L5.dropM 2 h.al p h.gen) < f
        omega
theorem hold_bal {h : Hp} {out : Int → Nat} (b : Bal m h out) (p : Int) (h0 : 0 < h.cnt p) (h1 : h.cnt p ≠ 5000) : Bal m (holdR h p) (fun x => out x + one p x) := by
  have hc : ∀ x, (holdR h p).cnt x = if x = p then h.cnt p + 1 else h.cnt x := fun x => cnt_hold h.al p x h0 h1
  refine ⟨fun q hq => ?_, fun x => ?_⟩
  · rw [hc] at hq
    split at hq
    · omega
    · exact b.bare q hq
  · rw [hc]
    have := b.bal x
    unfold one
    split
    · rename_i e; subst e; show _ = out x + 1 + refs m h.kids x; omega
    · show _ = out x + 0 + refs m h.kids x; omega
theorem cnt_holdAll : ∀ (ks : List Int) (l : List L5.St), (∀ k ∈ ks, 0 < cntL l k) → (∀ k ∈ ks, cntL l k + ks.count k ≤ 5000) → ∀ q, cntL (holdAll l ks) q = cntL l q + ks.count q
  | [], _, _, _, q => by simp [holdAll]
  | k :: r, l, h0, h1, q => by
    have hk0 := h0 k (List.mem_cons_self ..)
    have hk1 := h1 k (List.mem_cons_self ..)
    simp at hk1
    have hc : ∀ x, cntL (L5.holdM 2 l k) x = if x = k then cntL l k + 1 else cntL l x := fun x => cnt_hold l k x hk0 (by omega)
    have ih := cnt_holdAll r (L5.holdM 2 l k) (fun k' hk' => by
        rw [hc]
        split
        · omega
        · exact h0 k' (List.mem_cons_of_mem _ hk')) (fun k' hk' => by
        have := h1 k' (List.mem_cons_of_mem _ hk')
        rw [List.count_cons] at this
        rw [hc]
        split
        · rename_i e; subst e; simp at this; omega
        · rename_i e
          have e' : ¬ k = k' := fun h => e h.symm
          simp [e'] at this
          omega) q
    show cntL (holdAll (L5.holdM 2 l k) r) q = _
    rw [ih, hc, List.count_cons]
    by_cases e : q = k
    · subst e; simp; omega
    · have e' : ¬ k = q := fun h => e h.symm
      simp [e, e']
/-- Put: one holder more of what was put -/
theorem put_bal (hm4 : 4096 ≤ m) {h : Hp} {out : Int → Nat} {n : L6.Nd} (b : Bal m h out) (ok : L5.Ok 2 h.al) {i : Nat} (hi : L5.takeI h.al = some i) (hm : mayE h.al (places n) = 0) (dk : L3.Dk) :
    Bal m { dk := dk, al := holdAll (L5.takeM h.al h.gen) (places n), gen := h.gen, kids := setK h.kids (2 + i) (places n) } (fun x => out x + one ((2 : Int) + (i : Int)) x) ∧ h.cnt ((2 : Int) + (i : Int)) = 0 ∧ ((2 : Int) + (i : Int)) ∉ places n := by
  obtain ⟨hin, hs, _⟩ := take_at hi h.gen
  have hz : h.cnt ((2 : Int) + (i : Int)) = 0 := by show L5.cntS (L5.sec 2 h.al _) = 0; rw [hs]; rfl
  obtain ⟨m0, m1⟩ := mayE_zero hm
  have hnin : ((2 : Int) + (i : Int)) ∉ places n := fun hx => by have := m0 _ hx; have : cntL h.al ((2 : Int) + (i : Int)) = 0 := hz; omega
  have hfew := ok.few
  unfold L5.In at hin
  have hi4 : 2 + i < 4096 := by omega
  have hkn : ∀ k ∈ places n, cntL (L5.takeM h.al h.gen) k = cntL h.al k := fun k hk => by
    rw [cnt_take hi, if_neg]
    intro e
    rw [e] at hk
    exact hnin hk
  have hc := cnt_holdAll (places n) (L5.takeM h.al h.gen) (fun k hk => by rw [hkn k hk]; exact m0 k hk) (fun k hk => by rw [hkn k hk]; exact m1 k hk)
  have hb0 : h.kids (2 + i) = [] := b.bare (2 + i) (by rw [show ((2 + i : Nat) : Int) = (2 : Int) + (i : Int) by omega]; exact hz)
  refine ⟨⟨fun q hq => ?_, fun x => ?_⟩, hz, hnin⟩
  · have hq' : cntL (holdAll (L5.takeM h.al h.gen) (places n)) (q : Int) = 0 := hq
    rw [hc, cnt_take hi] at hq'
    show setK h.kids (2 + i) (places n) q = []
    unfold setK
    split
    · rename_i e; subst e; rw [if_pos (by omega)] at hq'; omega
    · rename_i e
      rw [if_neg (by omega)] at hq'
      exact b.bare q (by show cntL h.al (q : Int) = 0; omega)
  · show cntL (holdAll (L5.takeM h.al h.gen) (places n)) x = _
    rw [hc, cnt_take hi]
    have h1 := b.bal x
    have h2 := refs_setK m h.kids (2 + i) (by omega) (places n) x
    rw [hb0] at h2
    simp at h2
    show _ = out x + one ((2 : Int) + (i : Int)) x + refs m (setK h.kids (2 + i) (places n)) x
    rw [h2]
    unfold one
    split
    · rename_i e; subst e; rw [hz] at h1; omega
    · have : cntL h.al x = h.cnt x := rfl
      omega
end Go.Proofs.YteokbefcdpjkaaaGreatDoor

/- Plain mathematics of a heap: what holds behind any changes. -/
namespace Go.Proofs.YteokbefcdpjkaaaGreatDoor

theorem sec_upd_any {l : List L5.St} {p q : Int} {s : L5.St} (hp : L5.In 2 l p) : L5.sec 2 (L5.upd 2 l p s) q = if q = p then s else L5.sec 2 l q := by
  split
  · rename_i e; rw [e, L5.sec_upd hp]
  · rename_i e; rw [L5.sec_upd_ne e]
theorem sec_hold_wait {l : List L5.St} {p q g : Int} (h : L5.sec 2 (L5.holdM 2 l p) q = some (0, g)) : L5.sec 2 l q = some (0, g) := by
  by_cases h0 : cntL l p = 0
  · rw [hold_none l p h0] at h; exact h
  · by_cases h1 : cntL l p = 5000
    · rw [hold_full l p h1] at h; exact h
    · unfold L5.holdM at h
      rw [if_neg (show ¬ L5.cntS (L5.sec 2 l p) = 5000 from h1), sec_upd_any (cnt_in (by omega))] at h
      split at h
      · rename_i e
        match hs : L5.sec 2 l p with
        | none => exact absurd (show cntL l p = 0 by unfold cntL; rw [hs]; rfl) h0
        | some (0, g') => exact absurd (show cntL l p = 0 by unfold cntL; rw [hs]; rfl) h0
        | some (k + 1, g') => rw [hs] at h; simp [L5.holdS] at h
      · exact h
theorem sec_holdAll_wait (ks : List Int) : ∀ {l : List L5.St} {q g : Int}, L5.sec 2 (holdAll l ks) q = some (0, g) → L5.sec 2 l q = some (0, g) := by
  induction ks with
  | nil => intro l q g h; exact h
  | cons k r ih => intro l q g h; exact sec_hold_wait (ih (l := L5.holdM 2 l k) h)
theorem ok_holdAll (ks : List Int) : ∀ {l : List L5.St}, L5.Ok 2 l → L5.Ok 2 (holdAll l ks) := by
  induction ks with
  | nil => intro l h; exact h
  | cons k r ih => intro l h; exact ih (h.hold k)
theorem sec_drop (l : List L5.St) (p q g : Int) : L5.sec 2 (L5.dropM 2 l p g) q = if q = p then L5.dropS g (L5.sec 2 l p) else L5.sec 2 l q := by
  unfold L5.dropM
  by_cases hi : L5.In 2 l p
  · rw [sec_upd_any hi]
  · have e : L5.upd 2 l p (L5.dropS g (L5.sec 2 l p)) = l := by unfold L5.upd; rw [if_neg hi]
    rw [e]
    split
    · rename_i e; rw [e, L5.sec_none hi]; rfl
    · rfl
/-- what holds of a sector, and stays where it is dropped, stays -/
theorem drop_sec (Q : L5.St → Prop) (G : Int) (hQ : ∀ s, Q s → Q (L5.dropS G s)) (f : Nat) : ∀ (h : Hp) (p q : Int), h.gen = G → Q (L5.sec 2 h.al q) → Q (L5.sec 2 (dropH f h p).al q) ∧ (dropH f h p).gen = G := by
  induction f with
  | zero => intro h p q hg hq; exact ⟨hq, hg⟩
  | succ f ih =>
    intro h p q hg hq
    have hf : ∀ (ks : List Int) (h : Hp), h.gen = G → Q (L5.sec 2 h.al q) → Q (L5.sec 2 (ks.foldl (dropH f) h).al q) ∧ (ks.foldl (dropH f) h).gen = G := by
      intro ks
      induction ks with
      | nil => intro h hg hq; exact ⟨hq, hg⟩
      | cons k r ihr => intro h hg hq; obtain ⟨h1, h2⟩ := ih h k q hg hq; exact ihr _ h2 h1
    have hd : Q (L5.sec 2 (L5.dropM 2 h.al p h.gen) q) := by
      rw [sec_drop]
      split
      · rename_i e; rw [hg, ← e]; exact hQ _ hq
      · exact hq
    unfold dropH
    split
    · exact ⟨hq, hg⟩
    · split
      · exact ⟨hd, hg⟩
      · exact hf _ _ hg hd
theorem drop_kids (f : Nat) : ∀ (h : Hp) (p : Int) (q : Nat), L5.Ok 2 h.al → L5.I64 h.gen → 0 < (dropH f h p).cnt (q : Int) → (dropH f h p).kids q = h.kids q := by
  induction f with
  | zero => intro h p q _ _ _; rfl
  | succ f ih =>
    intro h p q ok g64
    have hf : ∀ (ks : List Int) (h : Hp), L5.Ok 2 h.al → L5.I64 h.gen → 0 < (ks.foldl (dropH f) h).cnt (q : Int) → (ks.foldl (dropH f) h).kids q = h.kids q := by
      intro ks
      induction ks with
      | nil => intro h _ _ _; rfl
      | cons k r ihr =>
        intro h ok g64 hp
        obtain ⟨h1, h2, _, _⟩ := drop_all f h k ok g64
        have h3 := ihr (dropH f h k) h1 (by rw [h2]; exact g64) hp
        have h4 := ih h k q ok g64 (Nat.lt_of_lt_of_le hp (fold_cnt (fun h p q => cnt_dropH f h p q) r _ _))
        exact h3.trans h4
    unfold dropH
    split
    · intro _; rfl
    · rename_i hz
      split
      · intro _; rfl
      · rename_i hz2
        intro hp
        have h3 := hf (h.kids p.toNat) { h with al := L5.dropM 2 h.al p h.gen, kids := setK h.kids p.toNat [] } (ok.drop p g64) g64 hp
        rw [h3]
        show setK h.kids p.toNat [] q = h.kids q
        unfold setK
        split
        · rename_i e
          exfalso
          have hpos : 0 < cntL h.al p := Nat.pos_of_ne_zero hz
          obtain ⟨_, _, _, pe⟩ := in_lt ok hpos
          have h4 := Nat.lt_of_lt_of_le hp (fold_cnt (fun h p q => cnt_dropH f h p q) (h.kids p.toNat) { h with al := L5.dropM 2 h.al p h.gen, kids := setK h.kids p.toNat [] } (q : Int))
          have h5 : 0 < cntL (L5.dropM 2 h.al p h.gen) (q : Int) := h4
          rw [e, pe] at h5
          exact hz2 h5
        · rfl
theorem put_refused {h : Hp} {n : L6.Nd} (hl : Lit h.dk) (hlen : 2 + h.al.length = h.dk.old.length) (g0 : 0 ≤ h.gen) (g1 : h.gen ≤ 1152921504606846976) (he : (putR h n).2.1 ≠ 0) : (putR h n).2.2 = h := by
  unfold putR at he ⊢
  by_cases h1 : (L6.encodeN n).2 = 0
  · rw [if_neg (fun hn => hn h1)] at he ⊢
    by_cases h2 : mayE h.al (places n) = 0
    · rw [if_neg (fun hn => hn h2)] at he ⊢
      by_cases h3 : (storeR h (sectorN h.gen n)).2.1 = 0
      · rw [if_neg (fun hn => hn h3)] at he
        exact absurd rfl he
      · rw [if_pos h3]
        show (storeR h (sectorN h.gen n)).2.2 = h
        unfold storeR at h3 ⊢
        by_cases h4 : L5.takeE h.al = 0
        · exfalso
          rw [if_neg (fun hn => hn h4)] at h3
          obtain ⟨i, hi, hn⟩ := take_here h4
          have hin := (take_at hi 0).1
          unfold L5.In at hin
          have hw := (write_lit hl (q := (2 : Int) + (i : Int)) (S := sectorN h.gen n) (by omega) (by omega) (sector_size h1 g0 g1)).1
          rw [hn, if_neg (fun hn => hn hw)] at h3
          exact h3 rfl
        · rw [if_pos h4]
    · rw [if_pos h2]
  · rw [if_pos h1]

/-- how often a place is held from outside -/
def outI (s : Hs) (x : Int) : Nat := if 0 ≤ x ∧ x < 16 then s.out x.toNat else 0
structure Good (m : Nat) (s : Hs) (t : Nat) : Prop where
  bal : Bal m s.h (outI s)
  near : s.h.near
  len : s.h.al.length = 14
  ok : L5.Ok 2 s.h.al
  lit : Lit s.h.dk
  old : s.h.dk.old.length = 16
  gen : 1 ≤ s.h.gen ∧ s.h.gen ≤ 1 + (t : Int)
  node : ∀ q : Nat, 0 < s.h.cnt (q : Int) → (L6.encodeN (s.put q)).2 = 0 ∧ s.h.kids q = places (s.put q) ∧ ∃ g : Int, 0 ≤ g ∧ g ≤ 1152921504606846976 ∧ L3.readM s.h.dk (q : Int) = (sectorN g (s.put q), 0)
  stamp : ∃ (st : Nat → Nat) (N : Nat), (∀ q, st q < N) ∧ ∀ q : Nat, 0 < s.h.cnt (q : Int) → ∀ k ∈ s.h.kids q, st k.toNat < st q
  wait : ∀ q g, L5.sec 2 s.h.al q = some (0, g) → g ≤ s.h.gen
variable {m : Nat} {s : Hs} {t : Nat}
theorem Good.mono (h : Good m s t) : Good m s (t + 1) := ⟨h.bal, h.near, h.len, h.ok, h.lit, h.old, ⟨h.gen.1, by have := h.gen.2; omega⟩, h.node, h.stamp, h.wait⟩
theorem Good.lt (h : Good m s t) {q : Int} (hq : 0 < s.h.cnt q) : 2 ≤ q ∧ q < 16 := by
  have hi := cnt_in hq
  unfold L5.In at hi
  rw [h.len] at hi
  omega
theorem Good.out_le (h : Good m s t) (i : Nat) (hi : i < 16) : s.out i ≤ s.h.cnt (i : Int) ∧ s.out i ≤ 100000 := by
  have hb := h.bal.bal (i : Int)
  have ho : outI s (i : Int) = s.out i := by unfold outI; rw [if_pos (by omega)]; rfl
  have hc : s.h.cnt (i : Int) ≤ 5000 := by
    have hs := h.ok.sec (i : Int)
    unfold Hp.cnt cntL
    revert hs
    cases L5.sec 2 s.h.al (i : Int) with
    | none => intro _; exact Nat.zero_le _
    | some y => intro hs; exact hs.1
  omega
theorem Good.g64 (h : Good m s t) (ht : t ≤ 1000) : L5.I64 s.h.gen ∧ 0 ≤ s.h.gen ∧ s.h.gen ≤ 1152921504606846976 := by
  have := h.gen
  unfold L5.I64
  omega
theorem holdE_zero {l : List L5.St} {n : Int} (h : L5.holdE 2 l n = 0) : 0 < cntL l n ∧ cntL l n ≠ 5000 := by
  unfold L5.holdE at h
  split at h
  · exact absurd h (by decide)
  · rename_i h1
    split at h
    · exact absurd h (by decide)
    · rename_i h2; exact ⟨Nat.pos_of_ne_zero h1, h2⟩
theorem holdE_not {l : List L5.St} {n : Int} (h : L5.holdE 2 l n ≠ 0) : L5.holdM 2 l n = l := by
  unfold L5.holdE at h
  split at h
  · rename_i h1; exact hold_none l n h1
  · split at h
    · rename_i h2; exact hold_full l n h2
    · exact absurd rfl h
theorem good_hold (h : Good m s t) (n : Int) (hE : L5.holdE 2 s.h.al n = 0) : Good m { s with h := holdR s.h n, out := setN s.out n.toNat (s.out n.toNat + 1) } (t + 1) := by
  obtain ⟨h0, h1⟩ := holdE_zero hE
  obtain ⟨n2, n16⟩ := h.lt h0
  have hc := fun q (hq : 0 < (holdR s.h n).cnt q) => cnt_hold_pos s.h.al n q hq
  refine ⟨(hold_bal h.bal n h0 h1).congr (fun x => ?_), h.near, (length_hold _ _).trans h.len, h.ok.hold n, h.lit, h.old, ⟨h.gen.1, by have := h.gen.2; show s.h.gen ≤ _; omega⟩, fun q hq => h.node q (hc _ hq), ?_, fun q g hq => h.wait q g (sec_hold_wait hq)⟩
  · unfold outI one setN
    by_cases e : x = n
    · subst e; simp; rw [if_pos (by omega), if_pos (by omega)]
    · by_cases hx : 0 ≤ x ∧ x < 16
      · rw [if_pos hx, if_pos hx, if_neg e]; dsimp only; rw [if_neg (by omega)]; rfl
      · rw [if_neg hx, if_neg hx, if_neg e]
  · obtain ⟨st, N, hN, hst⟩ := h.stamp
    exact ⟨st, N, hN, fun q hq => hst q (hc _ hq)⟩
theorem good_drop (hm4 : 4096 ≤ m) (h : Good m s t) (ht : t ≤ 1000) (i : Nat) (hi : i < 16) (ho : 0 < s.out i) : Good m { s with h := dropR s.h (i : Int), out := setN s.out i (s.out i - 1) } (t + 1) := by
  obtain ⟨g64, g0, g1⟩ := h.g64 ht
  obtain ⟨a1, a2, a3, a4⟩ := drop_all (s.h.al.length + 1) s.h (i : Int) h.ok g64
  have hc := fun q (hq : 0 < (dropR s.h (i : Int)).cnt q) => Nat.lt_of_lt_of_le hq (cnt_dropH _ s.h (i : Int) q)
  have hoi : outI s (i : Int) = s.out i := by unfold outI; rw [if_pos (by omega)]; rfl
  have hb := drop_bal hm4 (s.h.al.length + 1) s.h (outI s) (i : Int) h.bal h.ok g64 (by omega) (by have := heldL_le s.h.al; omega)
  refine ⟨hb.congr (fun x => ?_), near_dropH _ _ _ h.near, a4.trans h.len, a1, ?_, ?_, ?_, fun q hq => ?_, ?_, fun q g hq => ?_⟩
  · unfold outI one setN
    by_cases e : x = (i : Int)
    · subst e; simp; rw [if_pos (by omega), if_pos (by omega)]
    · by_cases hx : 0 ≤ x ∧ x < 16
      · rw [if_pos hx, if_pos hx, if_neg e]; dsimp only; rw [if_neg (by omega)]; rfl
      · rw [if_neg hx, if_neg hx, if_neg e]
  · show Lit (dropR s.h (i : Int)).dk
    unfold dropR; rw [a3]; exact h.lit
  · show (dropR s.h (i : Int)).dk.old.length = 16
    unfold dropR; rw [a3]; exact h.old
  · show 1 ≤ (dropR s.h (i : Int)).gen ∧ (dropR s.h (i : Int)).gen ≤ _
    unfold dropR; rw [a2]; have := h.gen; omega
  · obtain ⟨n1, n2, g, n3, n4, n5⟩ := h.node q (hc _ hq)
    refine ⟨n1, ?_, g, n3, n4, ?_⟩
    · show (dropR s.h (i : Int)).kids q = _
      exact (drop_kids _ s.h (i : Int) q h.ok g64 hq).trans n2
    · show L3.readM (dropR s.h (i : Int)).dk (q : Int) = _
      unfold dropR; rw [a3]; exact n5
  · obtain ⟨st, N, hN, hst⟩ := h.stamp
    refine ⟨st, N, hN, fun q hq k hk => ?_⟩
    have e : (dropR s.h (i : Int)).kids q = s.h.kids q := drop_kids _ s.h (i : Int) q h.ok g64 hq
    have hk' : k ∈ (dropR s.h (i : Int)).kids q := hk
    rw [e] at hk'
    exact hst q (hc _ hq) k hk'
  · have := (drop_sec (fun st => ∀ g, st = some (0, g) → g ≤ s.h.gen) s.h.gen (fun st hst g hg => by
      unfold L5.dropS at hg
      split at hg
      · split at hg
        · cases hg
        · injection hg with hg; injection hg with _ hg; omega
      · injection hg with hg; injection hg with hg _; omega
      · exact hst g hg) (s.h.al.length + 1) s.h (i : Int) q rfl (fun g hg => h.wait q g hg)).1 g hq
    show g ≤ (dropR s.h (i : Int)).gen
    unfold dropR; rw [a2]; exact this
theorem good_settle (h : Good m s t) (ht : t ≤ 1000) : Good m { s with h := settleM s.h } (t + 1) := by
  have hg := h.gen
  have e : settleM s.h = { s.h with al := L5.freeM s.h.al s.h.gen, gen := s.h.gen + 1 } := by unfold settleM; rw [if_neg (by omega)]
  rw [e]
  have hc : ∀ q, cntL (L5.freeM s.h.al s.h.gen) q = s.h.cnt q := fun q => cnt_free _ _ _
  refine ⟨⟨fun q hq => h.bal.bare q (by have := hc (q : Int); show s.h.cnt (q : Int) = 0; have hq' : cntL (L5.freeM s.h.al s.h.gen) (q : Int) = 0 := hq; omega), fun x => by show cntL (L5.freeM s.h.al s.h.gen) x = _; rw [hc]; exact h.bal.bal x⟩, h.near, (length_free _ _).trans h.len, h.ok.free _, h.lit, h.old, ⟨by show 1 ≤ s.h.gen + 1; omega, by show s.h.gen + 1 ≤ _; omega⟩, fun q hq => h.node q (by have hq' : 0 < cntL (L5.freeM s.h.al s.h.gen) (q : Int) := hq; rw [hc] at hq'; exact hq'), ?_, fun q g hq => ?_⟩
  · obtain ⟨st, N, hN, hst⟩ := h.stamp
    exact ⟨st, N, hN, fun q hq => hst q (by have hq' : 0 < cntL (L5.freeM s.h.al s.h.gen) (q : Int) := hq; rw [hc] at hq'; exact hq')⟩
  · have hq' : L5.sec 2 (L5.freeM s.h.al s.h.gen) q = some (0, g) := hq
    rw [sec_free] at hq'
    unfold L5.freedS at hq'
    split at hq'
    · cases hq'
    · have := h.wait q g hq'
      show g ≤ s.h.gen + 1
      omega
theorem good_put (hm4 : 4096 ≤ m) (h : Good m s t) (ht : t ≤ 1000) (n : L6.Nd) (hE : (putR s.h n).2.1 = 0) : Good m { h := (putR s.h n).2.2, out := setN s.out (putR s.h n).1.toNat 1, put := setN s.put (putR s.h n).1.toNat n } (t + 1) := by
  obtain ⟨g64, g0, g1⟩ := h.g64 ht
  obtain ⟨i, hi, he, hme, hput⟩ := put_done hE
  have hin := (take_at hi 0).1
  unfold L5.In at hin
  rw [h.len] at hin
  have hi16 : 2 + i < 16 := by omega
  obtain ⟨hw1, hw2⟩ := write_lit h.lit (q := (2 : Int) + (i : Int)) (S := sectorN s.h.gen n) (by omega) (by rw [h.old]; omega) (sector_size he g0 g1)
  have e2 : ((2 : Int) + (i : Int)).toNat = 2 + i := by omega
  rw [hw2, e2] at hput
  rw [hput]
  show Good m { h := { dk := { s.h.dk with op := s.h.dk.op ++ [(2 + i, sectorN s.h.gen n)] }, al := holdAll (L5.takeM s.h.al s.h.gen) (places n), gen := s.h.gen, kids := setK s.h.kids (2 + i) (places n) }, out := setN s.out ((2 : Int) + (i : Int)).toNat 1, put := setN s.put ((2 : Int) + (i : Int)).toNat n } (t + 1)
  rw [e2]
  obtain ⟨pb, pz, pn⟩ := put_bal hm4 h.bal h.ok hi hme { s.h.dk with op := s.h.dk.op ++ [(2 + i, sectorN s.h.gen n)] }
  have hpos : ∀ q : Nat, 0 < cntL (holdAll (L5.takeM s.h.al s.h.gen) (places n)) (q : Int) → q = 2 + i ∨ (q ≠ 2 + i ∧ 0 < s.h.cnt (q : Int)) := fun q hq => by
    have h1 := cnt_holdAll_pos _ _ _ hq
    rw [cnt_take hi] at h1
    by_cases e : q = 2 + i
    · exact .inl e
    · rw [if_neg (by omega)] at h1
      exact .inr ⟨e, h1⟩
  have hout0 : s.out (2 + i) = 0 := by
    have := (h.out_le (2 + i) hi16).1
    rw [show ((2 + i : Nat) : Int) = (2 : Int) + (i : Int) by omega] at this
    omega
  refine ⟨pb.congr (fun x => ?_), ?_, (length_holdAll _ _).trans ((length_take _ _).trans h.len), ok_holdAll _ (h.ok.take g64), h.lit, h.old, ⟨h.gen.1, by have := h.gen.2; show s.h.gen ≤ _; omega⟩, fun q hq => ?_, ?_, fun q g hq => ?_⟩
  · unfold outI one setN
    by_cases e : x = (2 : Int) + (i : Int)
    · subst e; simp; rw [if_pos (by omega), if_pos (by omega)]; rw [e2, hout0]; simp
    · by_cases hx : 0 ≤ x ∧ x < 16
      · rw [if_pos hx, if_pos hx, if_neg e]; dsimp only; rw [if_neg (by omega)]; rfl
      · rw [if_neg hx, if_neg hx, if_neg e]
  · intro q x hx
    have hx' : x ∈ setK s.h.kids (2 + i) (places n) q := hx
    unfold setK at hx'
    split at hx'
    · exact enc_places he x hx'
    · exact h.near q x hx'
  · have hrw := fun x hx0 hx1 => read_write h.lit (q := (2 : Int) + (i : Int)) (x := x) (S := sectorN s.h.gen n) (by omega) (by rw [h.old]; omega) hx0 hx1
    rw [e2] at hrw
    rcases hpos q hq with e | ⟨e, hq0⟩
    · subst e
      refine ⟨by show (L6.encodeN (setN s.put (2 + i) n (2 + i))).2 = 0; unfold setN; rw [if_pos rfl]; exact he, by show setK s.h.kids (2 + i) (places n) (2 + i) = places (setN s.put (2 + i) n (2 + i)); unfold setK setN; rw [if_pos rfl, if_pos rfl], s.h.gen, g0, g1, ?_⟩
      show L3.readM { s.h.dk with op := s.h.dk.op ++ [(2 + i, sectorN s.h.gen n)] } ((2 + i : Nat) : Int) = (sectorN s.h.gen (setN s.put (2 + i) n (2 + i)), 0)
      rw [hrw _ (by omega) (by rw [h.old]; omega), if_pos (by omega)]
      unfold setN
      rw [if_pos rfl]
    · obtain ⟨n1, n2, g, n3, n4, n5⟩ := h.node q hq0
      have ep : setN s.put (2 + i) n q = s.put q := by unfold setN; rw [if_neg e]
      refine ⟨by show (L6.encodeN (setN s.put (2 + i) n q)).2 = 0; rw [ep]; exact n1, by show setK s.h.kids (2 + i) (places n) q = places (setN s.put (2 + i) n q); rw [ep]; unfold setK; rw [if_neg e]; exact n2, g, n3, n4, ?_⟩
      have hl := h.lt hq0
      show L3.readM { s.h.dk with op := s.h.dk.op ++ [(2 + i, sectorN s.h.gen n)] } (q : Int) = (sectorN g (setN s.put (2 + i) n q), 0)
      rw [hrw _ (by omega) (by rw [h.old]; omega), if_neg (by omega), ep]
      exact n5
  · obtain ⟨st, N, hN, hst⟩ := h.stamp
    refine ⟨setN st (2 + i) N, N + 1, fun q => ?_, fun q hq k hk => ?_⟩
    · unfold setN
      split
      · omega
      · have := hN q; omega
    · have hk' : k ∈ setK s.h.kids (2 + i) (places n) q := hk
      rcases hpos q hq with e | ⟨e, hq0⟩
      · subst e
        unfold setK at hk'
        rw [if_pos rfl] at hk'
        have hkp := enc_places he k hk'
        have hne : k.toNat ≠ 2 + i := fun e => pn (by rw [show (2 : Int) + (i : Int) = k by omega]; exact hk')
        unfold setN
        rw [if_neg hne, if_pos rfl]
        exact hN _
      · unfold setK at hk'
        rw [if_neg e] at hk'
        have hkp := h.near q k hk'
        have hcp : 0 < s.h.cnt k := by
          have h1 := h.bal.bal k
          have h2 := refs_pos (m := m) (k := s.h.kids) (q := q) (x := k) (by have := h.lt hq0; omega) hk'
          omega
        have hne : k.toNat ≠ 2 + i := fun e => by
          rw [show k = (2 : Int) + (i : Int) by omega, pz] at hcp
          omega
        unfold setN
        rw [if_neg hne, if_neg e]
        exact hst q hq0 k hk'
  · have hq' : L5.sec 2 (L5.takeM s.h.al s.h.gen) q = some (0, g) := sec_holdAll_wait (places n) hq
    obtain ⟨hin', _, htm⟩ := take_at hi s.h.gen
    rw [htm, sec_upd_any hin'] at hq'
    split at hq'
    · injection hq' with hq'; injection hq' with hq' _; omega
    · exact h.wait q g hq'
theorem good_chg (hm4 : 4096 ≤ m) (h : Good m s t) (ht : t ≤ 1000) (c : Cl) : Good m (chg s c) (t + 1) := by
  unfold chg
  split
  · exact h.mono
  · split
    · split
      · rename_i hE; exact good_hold h c.n hE
      · rename_i hE
        have e : holdR s.h c.n = s.h := by unfold holdR; rw [holdE_not hE]
        rw [e]
        exact h.mono
    · split
      · split
        · rename_i hc
          obtain ⟨i, hi, hi16⟩ : ∃ i : Nat, c.n = (i : Int) ∧ i < 16 := ⟨c.n.toNat, by omega, by omega⟩
          rw [hi] at hc ⊢
          have hd : L5.dropE 2 s.h.al (i : Int) = 0 := dropE_zero _ _ (by
            have h1 := (h.out_le i hi16).1
            have h2 : 0 < s.out i := hc.2.2
            have h3 : s.h.cnt (i : Int) = cntL s.h.al (i : Int) := rfl
            omega)
          rw [if_pos hd]
          exact good_drop hm4 h ht i hi16 hc.2.2
        · exact h.mono
      · split
        · exact good_settle h ht
        · split
          · rename_i hE; exact good_put hm4 h ht (nodeC c) hE
          · rename_i hE
            obtain ⟨_, g0, g1⟩ := h.g64 ht
            rw [put_refused h.lit (by rw [h.len, h.old]) g0 g1 hE]
            exact h.mono
end Go.Proofs.YteokbefcdpjkaaaGreatDoor

/- All changes, one behind the other. -/
namespace Go.Proofs.YteokbefcdpjkaaaGreatDoor
open Go.ChangeShapes Go.WideShapes Go.ChangeAt Go.RowKit
variable {B : Nat} {W : World} {o p d : Nat} {s : Hs} {c : Nat} {F : List Nat} {pv : Nat → V3} {m t : Nat}

theorem change_any (x : Cl) (a1 : Option Addr) (c1 : Nat) (ai : Option Addr) (ci : Nat) (ak : Option Addr) (ck : Nat) (w : World) (H : HeldIn B W w o p d s c F pv) (hc : ClAt B W x a1 ai ak) (hg : Good m s t) (hcc : c ≤ 999990) (hsh : x.kids.length ≤ 60 ∧ L6.Few x.nd) :
    Calls Tryz.prog 18 #[.pointer (some ⟨o, 0, none⟩), .agg #[.int .i64 x.kind, .int .i64 x.n, .slice a1 x.kids.length c1, .bool x.nd.leaf, .slice ai x.nd.its.length ci, .slice ak x.nd.kds.length ck]] w fun e w' => e = .returned (.tuple #[]) ∧ ∃ F' pv', HeldIn B W w' o p d (chg s x) (c + 2) F' pv' := by
  obtain ⟨k, n, kids, nd⟩ := x
  by_cases h2 : k = 2
  · subst h2; exact chg2 n kids nd a1 c1 ai ci ak ck w H hc
  by_cases h6 : k = 6
  · subst h6; exact chg6 n kids nd a1 c1 ai ci ak ck w H hc
  by_cases h3 : k = 3
  · subst h3; exact chg3 n kids nd a1 c1 ai ci ak ck w H hc (fun i hi => (hg.out_le i hi).2) hg.len
  by_cases h4 : k = 4
  · subst h4; exact chg4 n kids nd a1 c1 ai ci ak ck w H hc (fun i hi => hg.out_le i hi) hg.near
  by_cases h5 : k = 5
  · subst h5; exact chg5 n kids nd a1 c1 ai ci ak ck w H hc
  exact chgP n kids nd a1 c1 ai ci ak ck k w H hc hg.len hg.bal.bare hcc hsh.1 hsh.2 h2 h6 h3 h4 h5

def chgs (b : Bool) (l : List Cl) (s : Hs) : Hs := l.foldl (fun s x => if x.kind ≠ 5 ∨ b = true then chg s x else s) s
theorem chgs_next (b : Bool) (l : List Cl) (k : Nat) (hk : k < l.length) (s : Hs) : chgs b (l.take (k + 1)) s = if l[k].kind ≠ 5 ∨ b = true then chg (chgs b (l.take k) s) l[k] else chgs b (l.take k) s := by
  unfold chgs
  rw [List.take_add_one, List.getElem?_eq_getElem hk, List.foldl_append]
  rfl
theorem good_chgs (hm4 : 4096 ≤ m) (b : Bool) : ∀ (l : List Cl) (s : Hs) (t : Nat), Good m s t → t + l.length ≤ 1000 → Good m (chgs b l s) (t + l.length)
  | [], _, _, h, _ => h
  | x :: r, s, t, h, ht => by
    simp only [List.length_cons] at ht ⊢
    have h1 : Good m (if x.kind ≠ 5 ∨ b = true then chg s x else s) (t + 1) := by
      split
      · exact good_chg hm4 h (by omega) x
      · exact h.mono
    have := good_chgs hm4 b r _ (t + 1) h1 (by omega)
    rw [show t + (r.length + 1) = t + 1 + r.length by omega]
    exact this

set_option maxHeartbeats 4000000 in
set_option maxRecDepth 20000 in
theorem changes_any (hm4 : 4096 ≤ m) (b : Bool) (l : List Cl) (a : Option Addr) (cap : Nat) (w : World) (H : HeldIn B W w o p d s c F pv) (hl : Cls B W a l) (hs : Short l) (hg : Good m s t) (ht : t ≤ 500) (hcc : c ≤ 900000) :
    Calls Tryz.prog 22 #[.pointer (some ⟨o, 0, none⟩), .slice a l.length cap, .bool b] w fun e w' => e = .returned (.tuple #[]) ∧ ∃ F' pv', HeldIn B W w' o p d (chgs b l s) (c + 2 * l.length) F' pv' := by
  have HH := hide H
  have HL := hide hl
  have HS := hide hs
  have hlen := hs.1
  have HG : Hid (∀ k, k ≤ l.length → Good m (chgs b (l.take k) s) (t + k)) := fun k hk => by
    have := good_chgs hm4 b (l.take k) s t hg (by rw [List.length_take]; omega)
    rw [List.length_take, Nat.min_eq_left hk] at this
    exact this
  clear H hl hs hg
  go_enter Tryz.func22, Tryz.ntmps22
  go_wp2
  go_loopw [6] (fun t wr => ∃ (k : Nat) (F' : List Nat) (pv' : Nat → V3), k ≤ l.length ∧ t = .int .i64 (k : Int) ∧ HeldIn B W wr o p d (chgs b (l.take k) s) (c + 2 * k) F' pv') (fun t _ => l.length - (intOf t).toNat)
  case atStart => exact ⟨0, F, pv, Nat.zero_le _, rfl, unhide HH⟩
  case round =>
    clear HH
    obtain ⟨k, F', pv', hk, rfl, hH⟩ := hrel
    have HH := hide hH
    by_cases hlt : k < l.length
    · obtain ⟨bb, off, rfl, hbb, a1, c1, ai, ci, ak, ck, hcl, q0, q1, q2, q3, q4, q5⟩ := (unhide HL).at hlt
      replace q0 := cell_base q0 hbb hH.bel
      replace q1 := cell_base q1 hbb hH.bel
      replace q2 := cell_base q2 hbb hH.bel
      replace q3 := cell_base q3 hbb hH.bel
      replace q4 := cell_base q4 hbb hH.bel
      replace q5 := cell_base q5 hbb hH.bel
      have hlt' : (k : Int) < (l.length : Int) := by omega
      have hnx := chgs_next b l k hlt s
      have HSH := hide ((unhide HS).2 l[k] (List.getElem_mem hlt))
      obtain ⟨C, hC⟩ : ∃ x, x = l[k] := ⟨_, rfl⟩
      rw [← hC] at q0 q1 q2 q3 q4 q5 hcl hnx HSH
      have HNX := hide hnx
      have HCE := hide hC
      have HCL := hide hcl
      clear hH hcl hnx hC
      by_cases h5 : C.kind = 5
      · cases b with
        | false =>
          have hn5 : (C.kind == 5) = true := by rw [h5]; rfl
          have hn6 : (C.kind != 5) = false := by rw [h5]; rfl
          have HNX2 : Hid (chgs false (l.take (k + 1)) s = chgs false (l.take k) s) := by
            have := unhide HNX
            rw [if_neg (by simp; exact h5)] at this
            exact this
          clear h5
          go_wp2
          go_roundw
          case rel => exact ⟨k + 1, F', pv', by omega, by go_num, by rw [unhide HNX2]; exact (unhide HH).mono (by omega)⟩
          case measure => simp [intOf]; omega
        | true =>
          have hn5 : (C.kind == 5) = true := by rw [h5]; rfl
          have hn6 : (C.kind != 5) = false := by rw [h5]; rfl
          have HNX2 : Hid (chgs true (l.take (k + 1)) s = chg (chgs true (l.take k) s) C) := by
            have := unhide HNX
            rw [if_pos (by simp)] at this
            exact this
          clear h5
          go_wp2_with (go_at_call 18; refine (change_any C a1 c1 ai ci ak ck _ (unhide HH) (unhide HCL) (unhide HG k hk) (by omega) (unhide HSH)).mono ?_; rintro e w2 ⟨rfl, F2, pv2, h2⟩; have HX := hide h2; clear h2)
          go_roundw
          case rel => exact ⟨k + 1, F2, pv2, by omega, by go_num, by rw [unhide HNX2]; exact (unhide HX).mono (by omega)⟩
          case measure => simp [intOf]; omega
      · have hn5 : (C.kind == 5) = false := beq_eq_false_iff_ne.2 h5
        have hn6 : (C.kind != 5) = true := bne_iff_ne.2 h5
        have HNX2 : Hid (chgs b (l.take (k + 1)) s = chg (chgs b (l.take k) s) C) := by
          have := unhide HNX
          rw [if_pos (.inl h5)] at this
          exact this
        clear h5
        go_wp2_with (go_at_call 18; refine (change_any C a1 c1 ai ci ak ck _ (unhide HH) (unhide HCL) (unhide HG k hk) (by omega) (unhide HSH)).mono ?_; rintro e w2 ⟨rfl, F2, pv2, h2⟩; have HX := hide h2; clear h2)
        go_roundw
        case rel => exact ⟨k + 1, F2, pv2, by omega, by go_num, by rw [unhide HNX2]; exact (unhide HX).mono (by omega)⟩
        case measure => simp [intOf]; omega
    · obtain rfl : k = l.length := by omega
      clear hH
      go_wp2
      go_end0
      rw [List.take_length] at HH
      exact ⟨rfl, F', pv', unhide HH⟩
end Go.Proofs.YteokbefcdpjkaaaGreatDoor

/- Where changes begin; where all is dropped. -/
namespace Go.Proofs.YteokbefcdpjkaaaGreatDoor
open Go.ChangeShapes Go.WideShapes Go.ChangeAt Go.RowKit
variable {m t : Nat} {s : Hs}

theorem Good.back (h : Good m s (t + 1)) (hg : s.h.gen ≤ 1 + (t : Int)) : Good m s t := ⟨h.bal, h.near, h.len, h.ok, h.lit, h.old, ⟨h.gen.1, hg⟩, h.node, h.stamp, h.wait⟩
def hs0 : Hs := ⟨newH (L3.newM 16) 1, fun _ => 0, fun _ => L6.nd0⟩
theorem new_cnt (n : Nat) (g x : Int) : (newH (L3.newM n) g).cnt x = 0 := by
  show L5.cntS (L5.sec 2 (L5.newM 2 _) x) = 0
  by_cases hi : L5.In 2 (L5.newM 2 (L3.newM n).old.length) x
  · have h1 := L5.sec_at hi
    have h2 := List.eq_of_mem_replicate (show _ ∈ List.replicate _ _ from List.mem_of_getElem? h1)
    rw [h2]
    rfl
  · rw [L5.sec_none hi]; rfl
theorem good0 : Good m hs0 0 := by
  have hz : ∀ x, hs0.h.cnt x = 0 := new_cnt 16 1
  refine ⟨⟨fun _ _ => rfl, fun x => ?_⟩, fun q x hx => ?_, ?_, ?_, ⟨rfl, rfl⟩, newM_len 16, ⟨by decide, by decide⟩, fun q hq => ?_, ⟨fun _ => 0, 1, fun _ => Nat.zero_lt_one, fun q hq => ?_⟩, fun q g hq => ?_⟩
  · rw [hz]
    have h1 : refs m hs0.h.kids x = 0 := refs_none m x
    rw [h1]
    unfold outI
    split <;> rfl
  · have hx' : x ∈ ([] : List Int) := hx
    exact absurd hx' List.not_mem_nil
  · show (L5.newM 2 (L3.newM 16).old.length).length = 14
    rw [newM_len]
    rfl
  · show L5.Ok 2 (L5.newM 2 (L3.newM 16).old.length)
    rw [newM_len]
    exact L5.Ok.newM (by decide) (by decide)
  · rw [hz] at hq; omega
  · rw [hz] at hq; omega
  · exfalso
    have hi := L5.sec_some hq
    have h1 := L5.sec_at hi
    rw [hq] at h1
    have h2 := List.eq_of_mem_replicate (show _ ∈ List.replicate _ _ from List.mem_of_getElem? h1)
    cases h2
/-- where nothing is held from outside nothing is held -/
theorem no_held (h : Good m s t) (ho : ∀ i, i < 16 → s.out i = 0) (x : Int) : s.h.cnt x = 0 := by
  obtain ⟨st, N, hN, hst⟩ := h.stamp
  have key : ∀ d (q : Nat), N - st q ≤ d → s.h.cnt (q : Int) = 0 := by
    intro d
    induction d with
    | zero => intro q hq; have := hN q; omega
    | succ d ih =>
      intro q hq
      apply Classical.byContradiction
      intro hc
      have hpos : 0 < s.h.cnt (q : Int) := Nat.pos_of_ne_zero hc
      have hl := h.lt hpos
      have hb := h.bal.bal (q : Int)
      have ho' : outI s (q : Int) = 0 := by unfold outI; rw [if_pos (by omega)]; exact ho _ (by omega)
      obtain ⟨q', _, hx⟩ := refs_from m (by omega : 0 < refs m s.h.kids (q : Int))
      have hq' : 0 < s.h.cnt (q' : Int) := by
        apply Nat.pos_of_ne_zero
        intro e
        rw [h.bal.bare q' e] at hx
        simp at hx
      have h1 := hst q' hq' (q : Int) hx
      have h2 : ((q : Int)).toNat = q := rfl
      rw [h2] at h1
      have := ih q' (by have := hN q'; omega)
      omega
  by_cases hx : 0 ≤ x
  · have := key N x.toNat (by omega)
    rw [Int.toNat_of_nonneg hx] at this
    exact this
  · apply Classical.byContradiction
    intro hc
    have := h.lt (q := x) (Nat.pos_of_ne_zero hc)
    omega
theorem all_free (h : Good m s t) (hz : ∀ x, s.h.cnt x = 0) : L5.room (L5.freeM s.h.al s.h.gen) = 14 := by
  have hall : ∀ y ∈ L5.freeM s.h.al s.h.gen, y = none := by
    intro y hy
    obtain ⟨i, hi, rfl⟩ := List.getElem_of_mem hy
    have e := L5.sec_of (fr := 2) hi
    rw [sec_free] at e
    rw [← e]
    have hc := hz ((2 : Nat) + (i : Int))
    unfold Hp.cnt cntL at hc
    match hq : L5.sec 2 s.h.al ((2 : Nat) + (i : Int)) with
    | none => rfl
    | some (0, g) =>
      have := h.wait _ g hq
      unfold L5.freedS
      rw [if_pos (by simp [L5.dueS]; exact this)]
    | some (k + 1, g) => rw [hq] at hc; exact absurd hc (by simp [L5.cntS])
  unfold L5.room
  rw [List.countP_eq_length.2 (fun y hy => by rw [hall y hy]; rfl), length_free, h.len]

/-! Held, at its beginning -/
def heldL0 : List Value := (List.range 16).map (fun _ => Value.int .i64 0) ++ (List.range 48).map (fun j => if j % 3 = 0 then Value.bool false else Value.slice none 0 0)
set_option maxRecDepth 100000 in
theorem build54 (p : Nat) (w : World) : (Instr.build 54 #[(0, .pointer (some ⟨p, 0, none⟩))]).run Tryz.prog w = .ok (.agg (.pointer (some ⟨p, 0, none⟩) :: heldL0).toArray) w := by kernel_rfl
set_option maxRecDepth 100000 in
theorem box54 (cs : List Value) (w : World) : (Instr.box 54 (.agg (cs).toArray)).run Tryz.prog w = .ok (.pointer (some ⟨w.heap.size, 0, none⟩)) (w.alloc (.cells cs.toArray 54)) := by kernel_rfl
theorem wp_build54 {ops : Array Oper} {rest : List Oper} {o : Oper} {a : Act} {Q : Exit → Act → World → Prop} {w : World} {x : Nat}
    (hg : o.guard = none) (o0 : Operand) (hop : o.op = Op.build 54 #[(0, o0)]) (h0 : a.eval o0 = .pointer (some ⟨x, 0, none⟩))
    (h : ∀ v, v = .agg (.pointer (some ⟨x, 0, none⟩) :: heldL0).toArray → wpList Tryz.prog ops Q rest (a.put o.dst v) w) : wpList Tryz.prog ops Q (o :: rest) a w := by
  refine wpList_plain hg fun K' hK' => ?_
  have hr := build54 x w
  unfold Oper.wp
  simp only [execOp, hop, h0, List.map_toArray, List.map_cons, List.map_nil, Sem.run_bind, hr, Result.andThen_ok]
  exact hK' _ _ (h _ rfl)
theorem wp_box54 {ops : Array Oper} {rest : List Oper} {o : Oper} {a : Act} {Q : Exit → Act → World → Prop} {w : World} {cs : List Value}
    (hg : o.guard = none) (o0 : Operand) (hop : o.op = Op.box 54 o0) (h0 : a.eval o0 = .agg cs.toArray)
    (h : ∀ w', w' = w.alloc (.cells cs.toArray 54) → wpList Tryz.prog ops Q rest (a.put o.dst (.pointer (some ⟨w.heap.size, 0, none⟩))) w') : wpList Tryz.prog ops Q (o :: rest) a w := by
  refine wpList_plain hg fun K' hK' => ?_
  have hr := box54 cs w
  unfold Oper.wp
  simp only [execOp, hop, h0, Sem.run_bind, hr, Result.andThen_ok]
  exact hK' _ _ (h _ rfl)
theorem one_frozen {W : World} {g : Nat} {cs : Array Value} {t : TypeId} (hb : W.heap[g]? = some (.cells cs t (0, 0))) (i : Nat) : W.frozen? ⟨g, i, none⟩ = false := by simp [World.frozen?, hb]
theorem cell_new (w : World) (L : List Value) (t : TypeId) (j : Nat) : (w.alloc (.cells L.toArray t)).cell? ⟨w.heap.size, j, none⟩ = L[j]? := by
  have hb := heap_alloc_new w (.cells L.toArray t)
  generalize w.alloc (.cells L.toArray t) = w' at *
  simp [World.cell?, hb]
theorem held_new (w : World) (p : Nat) : HeldAt (w.alloc (.cells (.pointer (some ⟨p, 0, none⟩) :: heldL0).toArray 54)) w.heap.size p (fun _ => 0) (fun _ => (.bool false, .slice none 0 0, .slice none 0 0)) := by
  refine ⟨cell_new w _ 54 0, fun i hi => ?_, fun i hi => ?_, fun i => ?_, ⟨_, heap_alloc_new _ _⟩⟩
  · rw [cell_new, Nat.add_comm 1 i, List.getElem?_cons_succ]
    unfold heldL0
    rw [List.getElem?_append_left (by simp; exact hi), List.getElem?_map, List.getElem?_range hi]
    rfl
  · have key : ∀ j, j < 3 → (w.alloc (.cells (.pointer (some ⟨p, 0, none⟩) :: heldL0).toArray 54)).cell? ⟨w.heap.size, 17 + i * 3 + j, none⟩ = some (if j = 0 then Value.bool false else Value.slice none 0 0) := by
      intro j hj
      rw [cell_new, show 17 + i * 3 + j = (16 + (i * 3 + j)) + 1 by omega, List.getElem?_cons_succ]
      unfold heldL0
      rw [List.getElem?_append_right (by simp), List.getElem?_map]
      simp only [List.length_map, List.length_range]
      rw [show 16 + (i * 3 + j) - 16 = i * 3 + j by omega, List.getElem?_range (by omega)]
      have e : (i * 3 + j) % 3 = j := by omega
      simp [e]
    exact ⟨key 0 (by omega), key 1 (by omega), key 2 (by omega)⟩
  · exact one_frozen (heap_alloc_new _ _) i
end Go.Proofs.YteokbefcdpjkaaaGreatDoor

/- What was put in an earlier generation, and dropped, waits. -/
namespace Go.Proofs.YteokbefcdpjkaaaGreatDoor

/-- no sector bears a generation that isn't yet -/
def Past (s : Hs) : Prop := ∀ q c g, L5.sec 2 s.h.al q = some (c, g) → g ≤ s.h.gen
variable {m t : Nat} {s : Hs}
theorem sec_hold (Q : L5.St → Prop) (hQ : ∀ s, Q s → Q (L5.holdS s)) (l : List L5.St) (p q : Int) (h : Q (L5.sec 2 l q)) : Q (L5.sec 2 (L5.holdM 2 l p) q) := by
  unfold L5.holdM
  split
  · exact h
  · by_cases hi : L5.In 2 l p
    · rw [sec_upd_any hi]
      split
      · rename_i e; rw [← e]; exact hQ _ h
      · exact h
    · have e : L5.upd 2 l p (L5.holdS (L5.sec 2 l p)) = l := by unfold L5.upd; rw [if_neg hi]
      rw [e]
      exact h
theorem sec_holdAll (Q : L5.St → Prop) (hQ : ∀ s, Q s → Q (L5.holdS s)) (ks : List Int) : ∀ (l : List L5.St) (q : Int), Q (L5.sec 2 l q) → Q (L5.sec 2 (holdAll l ks) q) := by
  induction ks with
  | nil => intro l q h; exact h
  | cons k r ih => intro l q h; exact ih (L5.holdM 2 l k) q (sec_hold Q hQ l k q h)
def PastS (G : Int) (st : L5.St) : Prop := ∀ c g, st = some (c, g) → g ≤ G
theorem past_hold (G : Int) (st : L5.St) (h : PastS G st) : PastS G (L5.holdS st) := by
  intro c g e
  match st, h with
  | none, _ => simp [L5.holdS] at e
  | some (0, g'), h => simp [L5.holdS] at e; exact h 0 g (by rw [e.2])
  | some (k + 1, g'), h => simp [L5.holdS] at e; exact h (k + 1) g (by rw [e.2])
theorem past_drop (G : Int) (st : L5.St) (h : PastS G st) : PastS G (L5.dropS G st) := by
  intro c g e
  match st, h with
  | none, _ => simp [L5.dropS] at e
  | some (0, g'), h => simp [L5.dropS] at e; exact h 0 g (by rw [e.2])
  | some (1, g'), h =>
    simp only [L5.dropS] at e
    split at e
    · cases e
    · injection e with e; injection e with _ e; omega
  | some (k + 2, g'), h => simp [L5.dropS] at e; exact h (k + 2) g (by rw [e.2])
theorem sec_take {l : List L5.St} {i : Nat} (hi : L5.takeI l = some i) (g q : Int) : L5.sec 2 (L5.takeM l g) q = if q = (2 : Int) + (i : Int) then some (1, g) else L5.sec 2 l q := by
  obtain ⟨hin, _, e⟩ := take_at hi g
  rw [e, sec_upd_any hin]
theorem past_chg (h : Good m s t) (ht : t ≤ 1000) (hp : Past s) (x : Cl) : Past (chg s x) := by
  obtain ⟨g64, g0, g1⟩ := h.g64 ht
  unfold chg
  split
  · exact hp
  split
  · have hh : ∀ q, PastS s.h.gen (L5.sec 2 (L5.holdM 2 s.h.al x.n) q) := fun q => sec_hold _ (past_hold _) _ _ q (fun c g e => hp q c g e)
    split
    · exact fun q c g e => hh q c g e
    · exact fun q c g e => hh q c g e
  split
  · have hd : Past { s with h := dropR s.h x.n } := fun q c g e => by
      have h1 := drop_sec (PastS s.h.gen) s.h.gen (past_drop _) (s.h.al.length + 1) s.h x.n q rfl (fun c g e => hp q c g e)
      have h2 : (dropR s.h x.n).gen = s.h.gen := h1.2
      show g ≤ (dropR s.h x.n).gen
      rw [h2]
      exact h1.1 c g e
    split
    · split
      · exact hd
      · exact hd
    · exact hp
  split
  · intro q c g e
    have e' : L5.sec 2 (settleM s.h).al q = some (c, g) := e
    show g ≤ (settleM s.h).gen
    unfold settleM at e' ⊢
    split at e'
    · rename_i hg; rw [if_pos hg]; exact hp q c g e'
    · rename_i hg
      rw [if_neg hg]
      have e2 : L5.sec 2 (L5.freeM s.h.al s.h.gen) q = some (c, g) := e'
      rw [sec_free] at e2
      unfold L5.freedS at e2
      split at e2
      · cases e2
      · have := hp q c g e2
        show g ≤ s.h.gen + 1
        omega
  split
  · rename_i hE
    obtain ⟨i, hi, he, hme, hput⟩ := put_done hE
    rw [hput]
    intro q c g e
    have e' : L5.sec 2 (holdAll (L5.takeM s.h.al s.h.gen) (places (nodeC x))) q = some (c, g) := e
    show g ≤ s.h.gen
    refine sec_holdAll (PastS s.h.gen) (past_hold _) _ _ q (fun c g e => ?_) c g e'
    rw [sec_take hi] at e
    split at e
    · injection e with e; injection e with _ e; omega
    · exact hp q c g e
  · rename_i hE
    rw [put_refused h.lit (by rw [h.len, h.old]) g0 g1 hE]
    exact hp
theorem past_chgs (hm4 : 4096 ≤ m) (b : Bool) : ∀ (l : List Cl) (s : Hs) (t : Nat), Good m s t → t + l.length ≤ 1000 → Past s → Past (chgs b l s)
  | [], _, _, _, _, h => h
  | x :: r, s, t, h, ht, hp => by
    simp only [List.length_cons] at ht
    have h1 : Good m (if x.kind ≠ 5 ∨ b = true then chg s x else s) (t + 1) ∧ Past (if x.kind ≠ 5 ∨ b = true then chg s x else s) := by
      split
      · exact ⟨good_chg hm4 h (by omega) x, past_chg h (by omega) hp x⟩
      · exact ⟨h.mono, hp⟩
    exact past_chgs hm4 b r _ (t + 1) h1.1 (by omega) h1.2

/-- it is there, or waits; R: what stands there -/
def WaitS (G : Int) (st : L5.St) : Prop := ∃ c g, st = some (c, g) ∧ (0 < c → g < G)
theorem wait_hold (G : Int) (st : L5.St) (h : WaitS G st) : WaitS G (L5.holdS st) := by
  obtain ⟨c, g, rfl, h⟩ := h
  match c, h with
  | 0, h => exact ⟨0, g, rfl, h⟩
  | k + 1, h => exact ⟨k + 2, g, rfl, fun _ => h (by omega)⟩
theorem wait_drop (G : Int) (st : L5.St) (h : WaitS G st) : WaitS G (L5.dropS G st) := by
  obtain ⟨c, g, rfl, h⟩ := h
  match c, h with
  | 0, h => exact ⟨0, g, rfl, h⟩
  | 1, h =>
    have := h (by omega)
    refine ⟨0, G, ?_, fun h0 => absurd h0 (by omega)⟩
    simp only [L5.dropS]
    rw [if_neg (by omega)]
  | k + 2, h => exact ⟨k + 1, g, rfl, fun _ => h (by omega)⟩
structure Waits (G : Int) (q : Int) (R : ByteArray) (s : Hs) : Prop where
  sec : WaitS G (L5.sec 2 s.h.al q)
  gen : s.h.gen = G
  read : (L3.readM s.h.dk q).1 = R
theorem waits_chg (h : Good m s t) (ht : t ≤ 1000) {G q : Int} {R : ByteArray} (hq : 0 ≤ q ∧ q < 16) (hw : Waits G q R s) (x : Cl) (h5 : x.kind ≠ 5) : Waits G q R (chg s x) := by
  obtain ⟨g64, g0, g1⟩ := h.g64 ht
  unfold chg
  split
  · exact hw
  split
  · have hh : WaitS G (L5.sec 2 (L5.holdM 2 s.h.al x.n) q) := sec_hold _ (wait_hold G) _ _ q hw.sec
    split
    · exact ⟨hh, hw.gen, hw.read⟩
    · exact ⟨hh, hw.gen, hw.read⟩
  split
  · have hd : Waits G q R { s with h := dropR s.h x.n } := by
      have h1 := drop_sec (WaitS G) G (wait_drop _) (s.h.al.length + 1) s.h x.n q hw.gen hw.sec
      obtain ⟨_, _, a3, _⟩ := drop_all (s.h.al.length + 1) s.h x.n h.ok g64
      refine ⟨h1.1, h1.2, ?_⟩
      show (L3.readM (dropR s.h x.n).dk q).1 = R
      unfold dropR
      rw [a3]
      exact hw.read
    split
    · split
      · exact ⟨hd.sec, hd.gen, hd.read⟩
      · exact hd
    · exact hw
  split
  · rename_i hE
    obtain ⟨i, hi, he, hme, hput⟩ := put_done hE
    have hin := take_at hi 0
    have hne : q ≠ (2 : Int) + (i : Int) := by
      intro e
      obtain ⟨c, g, hs, _⟩ := hw.sec
      rw [e, hin.2.1] at hs
      cases hs
    have hlt := hin.1
    unfold L5.In at hlt
    rw [h.len] at hlt
    obtain ⟨hw1, hw2⟩ := write_lit h.lit (q := (2 : Int) + (i : Int)) (S := sectorN s.h.gen (nodeC x)) (by omega) (by rw [h.old]; omega) (sector_size he g0 g1)
    rw [hput]
    refine ⟨?_, hw.gen, ?_⟩
    · show WaitS G (L5.sec 2 (holdAll (L5.takeM s.h.al s.h.gen) (places (nodeC x))) q)
      refine sec_holdAll (WaitS G) (wait_hold _) _ _ q ?_
      rw [sec_take hi, if_neg hne]
      exact hw.sec
    · show (L3.readM (L3.writeM s.h.dk ((2 : Int) + (i : Int)) (sectorN s.h.gen (nodeC x))) q).1 = R
      rw [hw2, read_write h.lit (by omega) (by rw [h.old]; omega) hq.1 (by rw [h.old]; omega), if_neg hne]
      exact hw.read
  · rename_i hE
    rw [put_refused h.lit (by rw [h.len, h.old]) g0 g1 hE]
    exact hw
theorem waits_chgs (hm4 : 4096 ≤ m) {G q : Int} {R : ByteArray} (hq : 0 ≤ q ∧ q < 16) : ∀ (l : List Cl) (s : Hs) (t : Nat), Good m s t → t + l.length ≤ 1000 → Waits G q R s → Waits G q R (chgs false l s)
  | [], _, _, _, _, h => h
  | x :: r, s, t, h, ht, hw => by
    simp only [List.length_cons] at ht
    have h1 : Good m (if x.kind ≠ 5 ∨ false = true then chg s x else s) (t + 1) ∧ Waits G q R (if x.kind ≠ 5 ∨ false = true then chg s x else s) := by
      split
      · rename_i hc
        exact ⟨good_chg hm4 h (by omega) x, waits_chg h (by omega) hq hw x (by rcases hc with hc | hc; exact hc; cases hc)⟩
      · exact ⟨h.mono, hw⟩
    exact waits_chgs hm4 hq r _ (t + 1) h1.1 (by omega) h1.2
/-- behind the end of a generation what is held was put in an earlier one -/
theorem waits_from (h : Good m s t) (ht : t ≤ 1000) (hp : Past s) {q : Int} (hc : 0 < (settleM s.h).cnt q) : Waits (settleM s.h).gen q (L3.readM (settleM s.h).dk q).1 { s with h := settleM s.h } := by
  have hg := h.gen
  have e : settleM s.h = { s.h with al := L5.freeM s.h.al s.h.gen, gen := s.h.gen + 1 } := by unfold settleM; rw [if_neg (by omega)]
  refine ⟨?_, rfl, rfl⟩
  show WaitS (settleM s.h).gen (L5.sec 2 (settleM s.h).al q)
  have hc' : 0 < L5.cntS (L5.sec 2 (settleM s.h).al q) := hc
  match hs : L5.sec 2 (settleM s.h).al q with
  | none => rw [hs] at hc'; exact absurd hc' (by decide)
  | some (c, g) =>
    refine ⟨c, g, rfl, fun h0 => ?_⟩
    rw [e] at hs
    have hs' : L5.sec 2 (L5.freeM s.h.al s.h.gen) q = some (c, g) := hs
    rw [sec_free] at hs'
    unfold L5.freedS at hs'
    split at hs'
    · cases hs'
    · have := hp q c g hs'
      rw [e]
      show g < s.h.gen + 1
      omega
end Go.Proofs.YteokbefcdpjkaaaGreatDoor

/- Plain mathematics of a heap: what is held from outside is loaded from a copy of the disk. -/
namespace Go.Proofs.YteokbefcdpjkaaaGreatDoor
variable {m t : Nat} {s : Hs}

theorem Good.fetch (h : Good m s t) {q : Nat} (hq : 0 < s.h.cnt (q : Int)) : ∃ g : Int, 0 ≤ g ∧ g ≤ 1152921504606846976 ∧ fetchM s.h.dk (q : Int) = (s.put q, g, 0) := by
  obtain ⟨he, _, g, g0, g1, hr⟩ := h.node q hq
  refine ⟨g, g0, g1, ?_⟩
  unfold fetchM
  rw [hr, if_neg (by simp)]
  exact nodeOf_sector he g0 g1
theorem sum_le (g g' : Nat → Nat) (hl : ∀ q, g q ≤ g' q) : ∀ n, ((List.range n).map g).sum ≤ ((List.range n).map g').sum
  | 0 => Nat.le_refl _
  | n + 1 => by
    rw [List.range_succ, List.map_append, List.map_append, List.sum_append, List.sum_append]
    have := sum_le g g' hl n
    have := hl n
    simp only [List.map_cons, List.map_nil, List.sum_cons, List.sum_nil]
    omega
def OwnedS (st : L5.St) : Prop := ∀ c g, st = some (c, g) → 0 < c
/-- while a copy is loaded: L: what was loaded from outside so far, P: what is still to be loaded -/
structure Ld (m : Nat) (s : Hs) (h : Hp) (L P : Int → Nat) : Prop where
  bal : ∀ x, h.cnt x + P x = L x + refs m h.kids x
  le : ∀ x, L x ≤ outI s x
  full : ∀ q : Nat, 0 < h.cnt (q : Int) → 0 < s.h.cnt (q : Int) ∧ h.kids q = places (s.put q)
  bare : ∀ q : Nat, h.cnt (q : Int) = 0 → h.kids q = []
  own : ∀ q, OwnedS (L5.sec 2 h.al q)
  len : h.al.length = 14
  ok : L5.Ok 2 h.al
  dk : h.dk = s.h.dk
variable {h : Hp} {L P : Int → Nat}
theorem Ld.refs (k : Ld m s h L P) (hg : Good m s t) (x : Int) : refs m h.kids x ≤ Go.Proofs.YteokbefcdpjkaaaGreatDoor.refs m s.h.kids x := by
  refine sum_le _ _ (fun q => ?_) m
  by_cases hz : h.cnt (q : Int) = 0
  · rw [k.bare q hz]; simp
  · obtain ⟨h1, h2⟩ := k.full q (Nat.pos_of_ne_zero hz)
    rw [h2, (hg.node q h1).2.1]
    exact Nat.le_refl _
/-- what is to be loaded is held there, more often than here -/
theorem Ld.need (k : Ld m s h L P) (hg : Good m s t) {x : Int} (hx : 0 < P x) : h.cnt x < s.h.cnt x ∧ s.h.cnt x ≤ 5000 ∧ 2 ≤ x ∧ x < 16 := by
  have h1 := k.bal x
  have h2 := k.le x
  have h3 := k.refs hg x
  have h4 := hg.bal.bal x
  have h5 : h.cnt x < s.h.cnt x := by omega
  have hc : s.h.cnt x ≤ 5000 := by
    have hs := hg.ok.sec x
    unfold Hp.cnt cntL
    revert hs
    cases L5.sec 2 s.h.al x with
    | none => intro _; exact Nat.zero_le _
    | some y => intro hs; exact hs.1
  exact ⟨h5, hc, hg.lt (by omega)⟩
theorem own_hold (st : L5.St) (h : OwnedS st) : OwnedS (L5.holdS st) := by
  intro c g e
  match st, h with
  | none, _ => simp [L5.holdS] at e
  | some (0, g'), h => exact absurd (h 0 g' rfl) (by omega)
  | some (k + 1, g'), h => simp [L5.holdS] at e; omega
theorem Ld.hold (k : Ld m s h L P) (hg : Good m s t) {q : Int} (hq : 0 < P q) (h0 : 0 < h.cnt q) : L5.holdE 2 h.al q = 0 ∧ Ld m s (holdR h q) L (fun x => P x - one q x) := by
  obtain ⟨n1, n2, n3⟩ := k.need hg hq
  have h5 : cntL h.al q ≠ 5000 := by have : h.cnt q = cntL h.al q := rfl; omega
  have hc : ∀ x, (holdR h q).cnt x = if x = q then h.cnt q + 1 else h.cnt x := fun x => cnt_hold h.al q x h0 h5
  refine ⟨?_, fun x => ?_, k.le, fun x hx => k.full x ?_, fun x hx => k.bare x ?_, fun x => sec_hold OwnedS own_hold _ _ _ (k.own x), (length_hold _ _).trans k.len, k.ok.hold q, k.dk⟩
  · unfold L5.holdE
    rw [if_neg (show ¬ L5.cntS (L5.sec 2 h.al q) = 0 from by have : h.cnt q = L5.cntS (L5.sec 2 h.al q) := rfl; omega), if_neg (show ¬ L5.cntS (L5.sec 2 h.al q) = 5000 from h5)]
  · have hb := k.bal x
    rw [hc]
    show _ = L x + Go.Proofs.YteokbefcdpjkaaaGreatDoor.refs m h.kids x
    unfold one
    by_cases e : x = q
    · subst e; rw [if_pos rfl, if_pos rfl]; omega
    · rw [if_neg e, if_neg e]; omega
  · rw [hc] at hx
    split at hx
    · rename_i e; rw [e]; exact h0
    · exact hx
  · rw [hc] at hx
    split at hx
    · omega
    · exact hx
theorem Ld.mark (hm4 : 4096 ≤ m) (k : Ld m s h L P) (hg : Good m s t) {q : Nat} (hq : 0 < P (q : Int)) (h0 : h.cnt (q : Int) = 0) :
    ∃ g : Int, 0 ≤ g ∧ g ≤ 1152921504606846976 ∧ fetchM h.dk (q : Int) = (s.put q, g, 0) ∧ L5.markE 2 h.al (q : Int) = 0 ∧ (L5.markM 2 h.al (q : Int) g).length = h.al.length ∧ L5.room (L5.markM 2 h.al (q : Int) g) < L5.room h.al ∧
      Ld m s { h with al := L5.markM 2 h.al (q : Int) g, kids := setK h.kids q (places (s.put q)) } L (fun x => (P x - one (q : Int) x) + (places (s.put q)).count x) := by
  obtain ⟨n1, n2, n3, n4⟩ := k.need hg hq
  obtain ⟨g, g0, g1, hf⟩ := hg.fetch (q := q) (by omega)
  have hin : L5.In 2 h.al (q : Int) := by unfold L5.In; rw [k.len]; omega
  have hs : L5.sec 2 h.al (q : Int) = none := by
    match hs : L5.sec 2 h.al (q : Int) with
    | none => rfl
    | some (c, g) =>
      have h1 := k.own (q : Int) c g hs
      have h2 : L5.cntS (L5.sec 2 h.al (q : Int)) = 0 := h0
      rw [hs] at h2
      have h3 : c = 0 := h2
      omega
  have hM : L5.markM 2 h.al (q : Int) g = L5.upd 2 h.al (q : Int) (some (1, g)) := by unfold L5.markM; rw [if_pos hs]
  have hc : ∀ x, cntL (L5.markM 2 h.al (q : Int) g) x = if x = (q : Int) then 1 else h.cnt x := fun x => by rw [hM, cnt_upd hin]; rfl
  refine ⟨g, g0, g1, by rw [k.dk]; exact hf, ?_, ?_, ?_, fun x => ?_, k.le, fun x hx => ?_, fun x hx => ?_, fun x => ?_, ?_, ?_, k.dk⟩
  · unfold L5.markE; rw [if_pos hin, if_pos hs]
  · rw [hM]; exact L5.upd_length _ _ _ _
  · have := countP_set L5.freeS h.al (L5.ix 2 (q : Int)) (L5.sec 2 h.al (q : Int)) (some (1, g)) (L5.sec_at hin)
    rw [hM, L5.upd_in _ hin]
    unfold L5.room
    rw [hs] at this
    simp only [L5.freeS, if_true, Bool.false_eq_true, if_false] at this
    omega
  · show cntL (L5.markM 2 h.al (q : Int) g) x + _ = L x + Go.Proofs.YteokbefcdpjkaaaGreatDoor.refs m (setK h.kids q (places (s.put q))) x
    have hb := k.bal x
    have hr := refs_setK m h.kids q (by omega) (places (s.put q)) x
    rw [k.bare q h0] at hr
    simp only [List.count_nil, Nat.add_zero] at hr
    rw [hc, hr]
    unfold one
    by_cases e : x = (q : Int)
    · subst e; rw [if_pos rfl, if_pos rfl]; omega
    · rw [if_neg e, if_neg e]; omega
  · have hx' : 0 < cntL (L5.markM 2 h.al (q : Int) g) (x : Int) := hx
    rw [hc] at hx'
    show 0 < s.h.cnt (x : Int) ∧ setK h.kids q (places (s.put q)) x = places (s.put x)
    unfold setK
    by_cases e : x = q
    · subst e; rw [if_pos rfl]; exact ⟨by omega, rfl⟩
    · rw [if_neg e]; rw [if_neg (by omega)] at hx'; exact k.full x hx'
  · have hx' : cntL (L5.markM 2 h.al (q : Int) g) (x : Int) = 0 := hx
    rw [hc] at hx'
    show setK h.kids q (places (s.put q)) x = []
    unfold setK
    by_cases e : x = q
    · subst e; rw [if_pos rfl] at hx'; omega
    · rw [if_neg e]; rw [if_neg (by omega)] at hx'; exact k.bare x hx'
  · show OwnedS (L5.sec 2 (L5.markM 2 h.al (q : Int) g) x)
    rw [hM, sec_upd_any hin]
    split
    · intro c g' e; injection e with e; injection e with e _; omega
    · exact k.own x
  · show (L5.markM 2 h.al (q : Int) g).length = 14
    rw [hM, L5.upd_length]; exact k.len
  · show L5.Ok 2 (L5.markM 2 h.al (q : Int) g)
    exact k.ok.mark (q : Int) (by unfold L5.I64; omega)
/-- one is loaded from outside -/
theorem Ld.out (k : Ld m s h L (fun _ => 0)) {q : Int} (hl : L q < outI s q) : Ld m s h (fun x => L x + one q x) (fun x => one q x) :=
  ⟨fun x => by have := k.bal x; omega, fun x => by
    have := k.le x
    unfold one
    split
    · rename_i e; rw [e]; omega
    · omega, k.full, k.bare, k.own, k.len, k.ok, k.dk⟩
theorem Ld.congr {L' P' : Int → Nat} (k : Ld m s h L P) (e1 : ∀ x, L x = L' x) (e2 : ∀ x, P x = P' x) : Ld m s h L' P' := by
  rw [← show L = L' from funext e1, ← show P = P' from funext e2]; exact k
theorem Ld.new (hg : Good m s t) (G : Int) : Ld m s (newH s.h.dk G) (fun _ => 0) (fun _ => 0) := by
  have hsec : ∀ q, L5.sec 2 (newH s.h.dk G).al q = none := fun q => by
    show L5.sec 2 (L5.newM 2 s.h.dk.old.length) q = none
    by_cases hi : L5.In 2 (L5.newM 2 s.h.dk.old.length) q
    · have h1 := L5.sec_at hi
      exact List.eq_of_mem_replicate (show _ ∈ List.replicate _ _ from List.mem_of_getElem? h1)
    · exact L5.sec_none hi
  have hz : ∀ x, (newH s.h.dk G).cnt x = 0 := fun x => by
    show L5.cntS (L5.sec 2 (newH s.h.dk G).al x) = 0
    rw [hsec]; rfl
  refine ⟨fun x => ?_, fun x => Nat.zero_le _, fun q hq => ?_, fun q _ => rfl, fun q c g e => ?_, ?_, ?_, rfl⟩
  · rw [hz]; exact (show 0 + 0 = 0 + Go.Proofs.YteokbefcdpjkaaaGreatDoor.refs m (fun _ => []) x by rw [refs_none])
  · rw [hz] at hq; omega
  · rw [hsec] at e; cases e
  · show (L5.newM 2 s.h.dk.old.length).length = 14
    rw [hg.old]; rfl
  · show L5.Ok 2 (L5.newM 2 s.h.dk.old.length)
    rw [hg.old]; exact L5.Ok.newM (by decide) (by decide)
/-- all is loaded: it is held as often -/
theorem Ld.done (hg : Good m s t) (k : Ld m s h (outI s) (fun _ => 0)) (x : Int) : h.cnt x = s.h.cnt x := by
  have hcnt : ∀ x, h.cnt x = outI s x + Go.Proofs.YteokbefcdpjkaaaGreatDoor.refs m h.kids x := fun x => k.bal x
  obtain ⟨st, N, hN, hst⟩ := hg.stamp
  have key : ∀ d (q : Nat), N - st q ≤ d → 0 < s.h.cnt (q : Int) → 0 < h.cnt (q : Int) := by
    intro d
    induction d with
    | zero => intro q hq; have := hN q; omega
    | succ d ih =>
      intro q hq hp
      have hb := hg.bal.bal (q : Int)
      have hc := hcnt (q : Int)
      by_cases ho : 0 < outI s (q : Int)
      · omega
      · obtain ⟨q', hq', hx⟩ := refs_from m (by omega : 0 < Go.Proofs.YteokbefcdpjkaaaGreatDoor.refs m s.h.kids (q : Int))
        have hp' : 0 < s.h.cnt (q' : Int) := by
          apply Nat.pos_of_ne_zero
          intro e
          rw [hg.bal.bare q' e] at hx
          simp at hx
        have h1 := hst q' hp' (q : Int) hx
        have h2 : ((q : Int)).toNat = q := rfl
        rw [h2] at h1
        have h3 := ih q' (by have := hN q'; omega) hp'
        have h4 := (k.full q' h3).2
        rw [← (hg.node q' hp').2.1] at h4
        have := refs_pos (m := m) hq' (k := h.kids) (x := (q : Int)) (by rw [h4]; exact hx)
        omega
  have hk : h.kids = s.h.kids := by
    funext q
    by_cases hz : s.h.cnt (q : Int) = 0
    · rw [hg.bal.bare q hz]
      apply k.bare
      apply Classical.byContradiction
      intro hc
      have := (k.full q (Nat.pos_of_ne_zero hc)).1
      omega
    · rw [(hg.node q (Nat.pos_of_ne_zero hz)).2.1]
      exact (k.full q (key N q (by omega) (Nat.pos_of_ne_zero hz))).2
  rw [hcnt, hg.bal.bal, hk]
theorem Ld.get (hg : Good m s t) (k : Ld m s h (outI s) (fun _ => 0)) (x : Int) : getR h x = getR s.h x := by
  unfold getR
  rw [k.done hg, k.dk]
end Go.Proofs.YteokbefcdpjkaaaGreatDoor

/- Load, of what stands well on a copy of the disk. -/
namespace Go.Proofs.YteokbefcdpjkaaaGreatDoor
open Go.ChangeShapes Go.WideShapes Go.ChangeAt Go.RowKit
variable {w w' : World} {p d : Nat} {m t : Nat} {s : Hs} {L : Int → Nat}

theorem encode_kds {n : L6.Nd} (he : (L6.encodeN n).2 = 0) : n.kds.length ≤ 1100 := by
  have h := decode_encode he
  unfold L6.decodeN at h
  split at h
  · rename_i hc
    have h2 := L6.readN_kds _ hc.1
    have e : (L6.readN (L6.encodeN n).1).1 = n := (Prod.ext_iff.1 h).1
    rw [e] at h2
    exact h2
  · have h60 : (60 : Nat) = 0 := (Prod.ext_iff.1 h).2
    exact absurd h60 (by decide)
theorem room_hold (l : List L5.St) (q : Int) (h0 : 0 < cntL l q) : L5.room (L5.holdM 2 l q) = L5.room l := by
  unfold L5.holdM
  split
  · rfl
  · have hin := cnt_in h0
    have := countP_set L5.freeS l (L5.ix 2 q) (L5.sec 2 l q) (L5.holdS (L5.sec 2 l q)) (L5.sec_at hin)
    rw [L5.upd_in _ hin]
    unfold L5.room
    have e1 : L5.freeS (L5.sec 2 l q) = false := by
      unfold cntL at h0
      revert h0
      cases L5.sec 2 l q with
      | none => intro h0; exact absurd h0 (by decide)
      | some y => intro _; rfl
    have e2 : L5.freeS (L5.holdS (L5.sec 2 l q)) = false := by
      revert e1
      match L5.sec 2 l q with
      | none => intro e1; cases e1
      | some (0, g) => intro _; rfl
      | some (k + 1, g) => intro _; rfl
    rw [e1, e2] at this
    simpa using this
theorem Row.past {β : Type} {sv : β → Value} {a : Option Addr} {l : List (ByteArray × β)} {b : Nat} (h : L6.Row sv w a l) (hk : ∃ es cl, w.heap[b]? = some (.map es cl)) (hm : Moves [b] w w') : L6.Row sv w' a l := by
  rcases h with h | ⟨rb, off, e, hh⟩
  · exact .inl h
  · have key : ∀ i v, w.cell? ⟨rb, i, none⟩ = some v → w'.cell? ⟨rb, i, none⟩ = some v := fun i v hc => cell_moves hm hc (by
      simp
      rintro rfl
      obtain ⟨es, cl, hk⟩ := hk
      simp [World.cell?, hk] at hc)
    exact .inr ⟨rb, off, e, fun i x hx => ⟨key _ _ (hh i x hx).1, key _ _ (hh i x hx).2⟩⟩

set_option maxHeartbeats 4000000 in
set_option maxRecDepth 20000 in
theorem hload_ok (hm4 : 4096 ≤ m) (hg : Good m s t) (f : Nat) : ∀ (h : Hp) (c : Nat) (q : Int) (P : Int → Nat) (F : List Nat) (w : World), IsHeap w p d h c F → Ld m s h L P → 0 < P q → L5.room h.al < f → c + L5.room h.al ≤ 1000000 →
    Calls Tryz.prog 27 #[.pointer (some ⟨p, 0, none⟩), .int .i64 q] w fun e w' => e = .returned (.int .i64 0) ∧ ∃ h' c', HTurned w w' p d h' c' F ∧ Ld m s h' L (fun x => P x - one q x) ∧ L5.room h'.al ≤ L5.room h.al ∧ c' + L5.room h'.al ≤ c + L5.room h.al := by
  induction f with
  | zero => intro h c q P F w H k hq hf; omega
  | succ f ih =>
  intro h c q P F w H k hq hf hc
  obtain ⟨n1, n2, n3, n4⟩ := k.need hg hq
  have hdk : h.dk.old.length = 16 := by rw [k.dk]; exact hg.old
  have HIH := hide ih
  clear ih
  obtain ⟨a, b, kb, fd, kf, H, rfl⟩ := H
  obtain ⟨fb, lb, ov, hD, hfd⟩ := H.dk
  have p0 := H.cell0
  have p1 := H.cell1
  have HI : Hid (L5.I64 q) := by show L5.I64 _; unfold L5.I64; omega
  have hq2 : ¬ q < 2 := by omega
  have hq16 : ¬ (16 : Int) ≤ q := by omega
  have HS16 : Hid ((h.dk.old.length : Int) = 16) := by show (h.dk.old.length : Int) = 16; omega
  have HHD := hide hD
  have HH := hide H
  by_cases hz : h.cnt q = 0
  · obtain ⟨n, rfl⟩ : ∃ n : Nat, q = (n : Int) := ⟨q.toNat, by omega⟩
    obtain ⟨g, g0, g1, hfe, hmE, hlen, hroom, hL⟩ := k.mark hm4 hg hq hz
    have HKB := hide (k.bare n hz)
    have HK11 := hide (encode_kds (hg.node n (by omega)).1)
    have hz' : ((L5.cntS (L5.sec 2 h.al (n : Int)) : Nat) : Int) = 0 := by have : L5.cntS (L5.sec 2 h.al (n : Int)) = 0 := hz; omega
    have HZ := hide hz'
    have HFE := hide (fetch_any (n : Int) w H)
    rw [hfe] at HFE
    have HME := hide hmE
    have HLEN := hide hlen
    have HROOM := hide hroom
    have HF := hide hf
    have HC := hide hc
    have HL := hide hL
    have HGI : Hid (L5.I64 g) := by show L5.I64 _; unfold L5.I64; omega
    have HN4 : Hid (n < 16) := by show n < 16; omega
    generalize s.put n = X at *
    clear hfe hmE hlen hroom hf hc hL g0 g1 hz hz' hD hfd H k hq hdk n1 n2 n3 n4
    go_enter Tryz.func27, Tryz.ntmps27
    go_wp2_with (first
      | (go_at_call 37; refine (L3.sectors_any _ (unhide HHD)).mono ?_; rintro e w1 ⟨rfl, hw⟩; rw [hw]; clear hw w1; rw [unhide HS16])
      | (go_at_call 50; refine (L5.count_any (n : Int) (unhide HI) _ (unhide HH).al).mono ?_; rintro e w1 ⟨rfl, hw⟩; rw [hw]; clear hw w1; rw [unhide HZ])
      | fail)
    refine (unhide HFE).mono ?_
    rintro x w2 ⟨ai, ak, ci, ck, rfl, hh2, hb2⟩
    dsimp only at hh2 ⊢
    have hN := L6.Nblk.new w2 X.leaf ai ak X.its.length ci X.kds.length ck
    have hb3 := below_alloc w2 (.cells #[.bool X.leaf, .slice ai X.its.length ci, .slice ak X.kds.length ck] 43)
    have hb23 := below_then hb2 hb3
    have H3 := (unhide HH).grow hb23
    have hh3 := hh2.grow hb3
    have r0 := H3.cell0
    have r1 := H3.cell1
    have HLT : Hid (b ≠ w2.heap.size) := by have h1 := (unhide HH).al.map.lt; have h2 := hb2.size; show b ≠ _; omega
    have HH3 := hide H3
    have HA3 := hide hh3
    have HB3 := hide hb23
    have HN3 := hide hN
    clear hh2 hb2 hb3 hb23 H3 hh3 hN p0 p1
    go_wp2_with fail
    refine (L5.mark_any (n : Int) g _ (unhide HH3).al (unhide HI) (unhide HGI)).mono ?_
    rintro e w4 ⟨rfl, ha, hm⟩
    rw [unhide HME]
    have H4 := (unhide HH3).alloc hm ha (unhide HLEN)
    have hN4 : L6.Nblk w4 w2.heap.size X.leaf ai X.its.length ci ak X.kds.length ck := (hm.block _ (unhide HN3).lt (by simp; exact fun e => unhide HLT e.symm)).trans (unhide HN3)
    have x2 := hN4.cell2
    have HR4 := hide (Row.past (unhide HA3).2 (unhide HH3).al.map.kind hm)
    have HH4 := hide H4
    have HM4 : Hid (Moves (foot p a b kb fd) w w4) := (L5.Moves.of_below _ (unhide HB3)).trans hm (fun x hx => .inl (by simp at hx; simp [foot, hx]))
    clear H4 hN4 ha hm HH3 HN3 HA3 HB3 HH HFE HHD
    obtain ⟨xb, hxb⟩ : ∃ y, y = w2.heap.size := ⟨_, rfl⟩
    rw [← hxb] at x2 ⊢
    clear hxb HLT r0 r1
    go_wp2_with fail
    refine (placesOf_any X.kds ak ck _ (unhide HR4) (unhide HK11)).mono ?_
    rintro e w5 ⟨v, rfl, hv, hvn, hb5⟩
    have H5 := (unhide HH4).grow hb5
    have HV5 := hide hv
    have HH5 : Hid (IsHeap w5 p d { h with al := L5.markM 2 h.al (n : Int) g } c (foot p a b kb fd)) := ⟨a, b, kb, fd, kf, H5, rfl⟩
    have HM5 : Hid (Moves (foot p a b kb fd) w w5) := (unhide HM4).trans (L5.Moves.of_below (foot p a b kb fd) hb5) (fun x hx => .inl hx)
    clear H5 hv hvn hb5 HH4 HR4 HM4 x2
    go_wp2_with fail
    refine (know_any n (by have := unhide HN4; omega) v (X.kds.map (fun x => x.2)) _ (unhide HH5) (unhide HV5) (unhide HKB) (by have := unhide HC; omega)).mono ?_
    rintro e w6 ⟨rfl, ht⟩
    have hI6 : Ints w6 v (X.kds.map (fun x => x.2)) := by obtain ⟨_, _, k2, _⟩ := ht; exact (unhide HH5).ints (unhide HV5) k2
    have HT6 := hide (HTurned.then (unhide HM5) (fun _ hx => .inl hx) ht)
    obtain ⟨av, cv, rfl⟩ := hI6.form
    have HI6 := hide hI6
    clear ht hI6 HH5 HV5 HM5
    have HLL : Hid (Ld m s { h with al := L5.markM 2 h.al (n : Int) g, kids := setK h.kids n (places X) } L (fun x => (P x - one (n : Int) x) + (places X).count x)) := unhide HL
    obtain ⟨ks, hks⟩ : ∃ y, y = X.kds.map (fun x => x.2) := ⟨_, rfl⟩
    rw [show places X = ks from hks.symm] at HLL
    rw [← hks] at HT6 HI6 ⊢
    have hkl : ks.length ≤ 1100 := by rw [hks, List.length_map]; exact unhide HK11
    clear hks HL
    go_wp2_with fail
    go_loopw [78] (fun t wr => ∃ (j : Nat) (hj : Hp) (cj : Nat), j ≤ ks.length ∧ t = .int .i64 (j : Int) ∧ HTurned w wr p d hj cj (foot p a b kb fd) ∧ Ld m s hj L (fun x => (P x - one (n : Int) x) + (ks.drop j).count x) ∧ L5.room hj.al < L5.room h.al ∧ cj + L5.room hj.al ≤ c + L5.room h.al ∧ Ints wr (.slice av ks.length cv) ks) (fun t _ => ks.length - (intOf t).toNat)
    case atStart => exact ⟨0, _, _, Nat.zero_le _, rfl, unhide HT6, unhide HLL, unhide HROOM, by have := unhide HROOM; show c + 1 + L5.room (L5.markM 2 h.al (n : Int) g) ≤ _; omega, unhide HI6⟩
    case round =>
      clear HT6 HLL HI6
      obtain ⟨j, hj, cj, hjl, rfl, ht, hL, hrm, hcj, hv⟩ := hrel
      by_cases hlt : j < ks.length
      · have hlt' : (j : Int) < (ks.length : Int) := by omega
        obtain ⟨gb, rfl, hcell⟩ := hv.at j hlt
        obtain ⟨F1, H1, hm1, hf1⟩ := ht
        have hdr : ∀ x, (ks.drop j).count x = one ks[j] x + (ks.drop (j + 1)).count x := fun x => by
          rw [List.drop_eq_getElem_cons hlt, List.count_cons]
          unfold one
          by_cases e : x = ks[j]
          · rw [if_pos e, e]; simp; omega
          · rw [if_neg e, if_neg (by simp; exact fun h => e h.symm)]; omega
        have hP : 0 < (P ks[j] - one (n : Int) ks[j]) + (ks.drop j).count ks[j] := by rw [hdr]; unfold one; simp; omega
        have HIHX := hide (unhide HIH hj cj ks[j] _ F1 _ H1 hL hP (by have := unhide HF; omega) (by have := unhide HC; omega))
        have HH1 := hide H1
        have HX1 := hide (And.intro hm1 hf1)
        have HV1 := hide hv
        have HDR := hide hdr
        have HRM := hide hrm
        have HCJ := hide hcj
        obtain ⟨X1, hX1⟩ : ∃ y, y = ks[j] := ⟨_, rfl⟩
        rw [← hX1] at hcell HIHX HDR
        clear H1 hm1 hf1 hv hdr hP hL hrm hcj hX1
        go_wp2_with (go_at_call 27; refine (unhide HIHX).mono ?_; rintro e w7 ⟨rfl, h7, c7, ht7, hL7, hr7, hc7⟩; have HX7 := hide ht7; have HL7 := hide hL7; have HR7 := hide (And.intro hr7 hc7); clear ht7 hL7 hr7 hc7)
        go_roundw
        case rel =>
          obtain ⟨hm1, hf1⟩ := unhide HX1
          obtain ⟨hr7, hc7⟩ := unhide HR7
          have hrm := unhide HRM
          have hcj := unhide HCJ
          refine ⟨j + 1, h7, c7, by omega, by go_num, HTurned.then hm1 hf1 (unhide HX7), (unhide HL7).congr (fun _ => rfl) (fun x => ?_), by omega, by omega, ?_⟩
          · have := unhide HDR x
            omega
          · obtain ⟨_, _, k2, _⟩ := unhide HX7
            exact (unhide HH1).ints (unhide HV1) k2
        case measure => simp [intOf]; omega
      · obtain rfl : j = ks.length := by omega
        have HT := hide ht
        have HLE := hide (hL.congr (P' := fun x => P x - one (n : Int) x) (fun _ => rfl) (fun x => by simp))
        have HRM := hide hrm
        have HCJ := hide hcj
        clear ht hv hL hrm hcj
        go_wp2
        go_ret
        exact ⟨rfl, hj, cj, unhide HT, unhide HLE, Nat.le_of_lt (unhide HRM), unhide HCJ⟩
  · have hpos : 0 < h.cnt q := Nat.pos_of_ne_zero hz
    obtain ⟨hE, hL⟩ := k.hold hg hq hpos
    obtain ⟨D, hDD⟩ : ∃ y, y = ((L5.cntS (L5.sec 2 h.al q) : Nat) : Int) := ⟨_, rfl⟩
    have hD0 : 0 < D := by have : 0 < L5.cntS (L5.sec 2 h.al q) := hpos; omega
    have HDE := hide hDD
    have HE := hide hE
    have HL := hide hL
    have HRM := hide (room_hold h.al q hpos)
    clear hz hpos hE hL hDD hD hfd H k hq hf hc hdk n1 n2 n3 n4
    go_enter Tryz.func27, Tryz.ntmps27
    go_wp2_with (first
      | (go_at_call 37; refine (L3.sectors_any _ (unhide HHD)).mono ?_; rintro e w1 ⟨rfl, hw⟩; rw [hw]; clear hw w1; rw [unhide HS16])
      | (go_at_call 50; refine (L5.count_any q (unhide HI) _ (unhide HH).al).mono ?_; rintro e w1 ⟨rfl, hw⟩; rw [hw]; clear hw w1; rw [← unhide HDE])
      | (go_at_call 59; refine (L5.hold_any q _ (unhide HH).al (unhide HI)).mono ?_; rintro e w2 ⟨rfl, ha, hm⟩; rw [unhide HE]; have HX := hide (And.intro ha hm); clear ha hm))
    go_ret
    obtain ⟨ha, hm⟩ := unhide HX
    refine ⟨rfl, holdR h q, c, alloc_turned (unhide HH) hm ha (length_hold _ _), unhide HL, ?_, ?_⟩
    · show L5.room (L5.holdM 2 h.al q) ≤ _; rw [unhide HRM]; exact Nat.le_refl _
    · show c + L5.room (L5.holdM 2 h.al q) ≤ _; rw [unhide HRM]; exact Nat.le_refl _
end Go.Proofs.YteokbefcdpjkaaaGreatDoor
