/- Plain mathematics of layer 5: sectors that are free, held, or wait. -/
namespace Go.Proofs.Ytkfpeffiphdhmaa

/-- what is known of a sector: nothing (it is free); its holders (without any it waits), and a generation -/
abbrev St := Option (Nat × Int)
def cntS : St → Nat
  | some (h, _) => h
  | none => 0
def waitS : St → Bool
  | some (0, _) => true
  | _ => false
def dueS (gen : Int) : St → Bool
  | some (0, g) => decide (g ≤ gen)
  | _ => false
def freeS : St → Bool
  | none => true
  | _ => false
def freedS (gen : Int) (s : St) : St := if dueS gen s = true then none else s
def holdS : St → St
  | some (h + 1, g) => some (h + 2, g)
  | s => s
def dropS (gen : Int) : St → St
  | some (1, g) => if g = gen then none else some (0, gen)
  | some (h + 2, g) => some (h + 1, g)
  | s => s

/-- numbers of 64 bits -/
def I64 (n : Int) : Prop := -9223372036854775808 ≤ n ∧ n ≤ 9223372036854775807
def goodS : St → Prop
  | some (h, g) => h ≤ 5000 ∧ I64 g
  | none => True
structure Ok (fr : Nat) (l : List St) : Prop where
  few : fr + l.length ≤ 4096
  good : ∀ s ∈ l, goodS s

abbrev In (fr : Nat) (l : List St) (n : Int) : Prop := (fr : Int) ≤ n ∧ n < (fr : Int) + (l.length : Int)
def ix (fr : Nat) (n : Int) : Nat := (n - (fr : Int)).toNat
def sec (fr : Nat) (l : List St) (n : Int) : St := if In fr l n then l.getD (ix fr n) none else none
def upd (fr : Nat) (l : List St) (n : Int) (s : St) : List St := if In fr l n then l.set (ix fr n) s else l

theorem ix_lt {fr : Nat} {l : List St} {n : Int} (h : In fr l n) : ix fr n < l.length := by unfold ix; unfold In at h; omega
theorem ix_eq {fr : Nat} {l : List St} {n : Int} (h : In fr l n) : ((fr + ix fr n : Nat) : Int) = n := by unfold ix; unfold In at h; omega
theorem sec_at {fr : Nat} {l : List St} {n : Int} (h : In fr l n) : l[ix fr n]? = some (sec fr l n) := by
  unfold sec
  rw [if_pos h, List.getD_eq_getElem?_getD, List.getElem?_eq_getElem (ix_lt h)]
  rfl
theorem sec_none {fr : Nat} {l : List St} {n : Int} (h : ¬ In fr l n) : sec fr l n = none := by unfold sec; rw [if_neg h]
theorem sec_some {fr : Nat} {l : List St} {n : Int} {x : Nat × Int} (h : sec fr l n = some x) : In fr l n := by
  by_cases hi : In fr l n
  · exact hi
  · rw [sec_none hi] at h
    cases h
theorem sec_of {fr : Nat} {l : List St} {i : Nat} (h : i < l.length) : sec fr l ((fr : Int) + (i : Int)) = l[i] := by
  have hi : In fr l ((fr : Int) + (i : Int)) := by unfold In; omega
  have e : ix fr ((fr : Int) + (i : Int)) = i := by unfold ix; omega
  have := sec_at hi
  rw [e, List.getElem?_eq_getElem h] at this
  exact (Option.some.inj this).symm
theorem upd_length (fr : Nat) (l : List St) (n : Int) (s : St) : (upd fr l n s).length = l.length := by
  unfold upd
  split
  · exact List.length_set
  · rfl
theorem upd_in {fr : Nat} {l : List St} {n : Int} (s : St) (h : In fr l n) : upd fr l n s = l.set (ix fr n) s := by unfold upd; rw [if_pos h]
theorem in_upd {fr : Nat} {l : List St} {n m : Int} {s : St} : In fr (upd fr l n s) m ↔ In fr l m := by unfold In; rw [upd_length]
theorem sec_upd {fr : Nat} {l : List St} {n : Int} {s : St} (h : In fr l n) : sec fr (upd fr l n s) n = s := by
  have h1 := sec_at ((in_upd (n := n) (s := s)).2 h)
  rw [upd_in s h, List.getElem?_set_self (ix_lt h)] at h1
  rw [upd_in s h]
  exact (Option.some.inj h1).symm
theorem sec_upd_ne {fr : Nat} {l : List St} {n m : Int} {s : St} (hne : m ≠ n) : sec fr (upd fr l n s) m = sec fr l m := by
  by_cases hn : In fr l n
  · by_cases hm : In fr l m
    · have h1 := sec_at (in_upd (n := n) (s := s) |>.2 hm)
      rw [upd_in s hn, List.getElem?_set_ne (by intro e; have h1 := ix_eq hn; have h2 := ix_eq hm; rw [e] at h1; omega), sec_at hm] at h1
      rw [upd_in s hn]
      exact (Option.some.inj h1).symm
    · rw [sec_none hm, sec_none (fun h => hm (in_upd.1 h))]
  · unfold upd
    rw [if_neg hn]

theorem Ok.upd {fr : Nat} {l : List St} (h : Ok fr l) (n : Int) {s : St} (hs : goodS s) : Ok fr (upd fr l n s) := by
  refine ⟨by rw [upd_length]; exact h.few, fun x hx => ?_⟩
  unfold Go.Proofs.Ytkfpeffiphdhmaa.upd at hx
  split at hx
  · rcases List.mem_or_eq_of_mem_set hx with hx | hx
    · exact h.good x hx
    · rw [hx]; exact hs
  · exact h.good x hx
theorem Ok.sec {fr : Nat} {l : List St} (h : Ok fr l) (n : Int) : goodS (sec fr l n) := by
  by_cases hi : In fr l n
  · exact h.good _ (List.mem_of_getElem? (sec_at hi))
  · rw [sec_none hi]; trivial

/-! what a call answers, and what it leaves -/
def newM (fr to : Nat) : List St := List.replicate (to - fr) none
def markE (fr : Nat) (l : List St) (n : Int) : Int := if In fr l n then (if sec fr l n = none then 0 else 103) else 31
def markM (fr : Nat) (l : List St) (n gen : Int) : List St := if sec fr l n = none then upd fr l n (some (1, gen)) else l
def holdE (fr : Nat) (l : List St) (n : Int) : Int := if cntS (sec fr l n) = 0 then 51 else if cntS (sec fr l n) = 5000 then 52 else 0
def holdM (fr : Nat) (l : List St) (n : Int) : List St := if cntS (sec fr l n) = 5000 then l else upd fr l n (holdS (sec fr l n))
def dropE (fr : Nat) (l : List St) (n : Int) : Int := if cntS (sec fr l n) = 0 then 51 else 0
def dropM (fr : Nat) (l : List St) (n gen : Int) : List St := upd fr l n (dropS gen (sec fr l n))
def freeM (l : List St) (gen : Int) : List St := l.map (freedS gen)
def freeN (l : List St) (gen : Int) : Nat := l.countP (dueS gen)
def room (l : List St) : Nat := l.countP freeS
def waiting (l : List St) : Nat := l.countP waitS
def takeI (l : List St) : Option Nat := l.findIdx? freeS
def takeN (fr : Nat) (l : List St) : Int := match takeI l with | some i => (fr : Int) + (i : Int) | none => 0
def takeE (l : List St) : Int := match takeI l with | some _ => 0 | none => 50
def takeM (l : List St) (gen : Int) : List St := match takeI l with | some i => l.set i (some (1, gen)) | none => l

theorem freeS_iff (s : St) : freeS s = true ↔ s = none := by cases s <;> simp [freeS]
theorem take_some {l : List St} {k : Nat} (h : l[k]? = some none) (hp : ∀ j, j < k → l[j]? ≠ some none) : takeI l = some k := by
  obtain ⟨hk, he⟩ := List.getElem?_eq_some_iff.1 h
  unfold takeI
  rw [List.findIdx?_eq_some_iff_getElem]
  refine ⟨hk, by rw [he]; rfl, fun j hj => ?_⟩
  have := hp j hj
  rw [List.getElem?_eq_getElem (by omega)] at this
  intro e
  exact this (by rw [(freeS_iff _).1 e])
theorem take_none {l : List St} (hp : ∀ j, j < l.length → l[j]? ≠ some none) : takeI l = none := by
  unfold takeI
  rw [List.findIdx?_eq_none_iff]
  intro x hx
  obtain ⟨j, hj, rfl⟩ := List.getElem_of_mem hx
  have := hp j hj
  rw [List.getElem?_eq_getElem hj] at this
  cases hq : l[j] with
  | none => exact absurd (by rw [hq]) this
  | some y => rfl

/-! counting by what is left to come -/
/-- how many with p are no longer to come -/
def tally (p : St → Bool) (left : Int → Bool) : Nat → List St → Nat
  | _, [] => 0
  | fr, s :: r => (if p s = true ∧ left (fr : Int) = false then 1 else 0) + tally p left (fr + 1) r
theorem tally_le (p : St → Bool) (left : Int → Bool) : ∀ (l : List St) (fr : Nat), tally p left fr l ≤ l.length
  | [], _ => Nat.le_refl _
  | s :: r, fr => by
    have := tally_le p left r (fr + 1)
    simp only [tally, List.length_cons]
    split <;> omega
theorem tally_congr (p : St → Bool) {left left' : Int → Bool} : ∀ (l : List St) (fr : Nat), (∀ i, (fr : Int) ≤ i → left i = left' i) → tally p left fr l = tally p left' fr l
  | [], _, _ => rfl
  | s :: r, fr, h => by
    simp only [tally]
    rw [h fr (Int.le_refl _), tally_congr p r (fr + 1) (fun i hi => h i (by omega))]
/-- the one at place i comes -/
theorem tally_step (p : St → Bool) (left : Int → Bool) : ∀ (l : List St) (fr i : Nat) (s : St), l[i]? = some s → left ((fr : Int) + (i : Int)) = true →
    tally p (fun z => left z && !decide (z = (fr : Int) + (i : Int))) fr l = tally p left fr l + (if p s = true then 1 else 0)
  | [], _, _, _, h, _ => by simp at h
  | x :: r, fr, 0, s, h, hl => by
    simp at h
    subst h
    simp only [tally, Int.natCast_zero, Int.add_zero] at hl ⊢
    rw [tally_congr p (left := fun z => left z && !decide (z = (fr : Int))) (left' := left) r (fr + 1) (fun i hi => by
      have : ¬ i = (fr : Int) := by omega
      simp [this])]
    rw [hl]
    simp
    omega
  | x :: r, fr, i + 1, s, h, hl => by
    simp only [List.getElem?_cons_succ] at h
    have e : (fr : Int) + ((i + 1 : Nat) : Int) = ((fr + 1 : Nat) : Int) + (i : Int) := by omega
    rw [e] at hl ⊢
    have ih := tally_step p left r (fr + 1) i s h hl
    simp only [tally]
    rw [ih]
    have hne : ¬ (fr : Int) = ((fr + 1 : Nat) : Int) + (i : Int) := by omega
    simp only [hne, decide_false, Bool.not_false, Bool.and_true]
    omega
theorem tally_end (p : St → Bool) (left : Int → Bool) : ∀ (l : List St) (fr : Nat), (∀ i, left i = false) → tally p left fr l = l.countP p
  | [], _, _ => rfl
  | s :: r, fr, h => by
    simp only [tally, List.countP_cons, h]
    rw [tally_end p left r (fr + 1) h]
    simp
    omega
theorem tally_start (p : St → Bool) (left : Int → Bool) : ∀ (l : List St) (fr : Nat), (∀ (i : Nat) (s : St), l[i]? = some s → p s = true → left ((fr : Int) + (i : Int)) = true) → tally p left fr l = 0
  | [], _, _ => rfl
  | s :: r, fr, h => by
    simp only [tally]
    rw [tally_start p left r (fr + 1) (fun i s hi hp => by
      have := h (i + 1) s (by simpa using hi) hp
      rwa [show (fr : Int) + ((i + 1 : Nat) : Int) = ((fr + 1 : Nat) : Int) + (i : Int) by omega] at this)]
    have h0 := h 0 s rfl
    rw [Int.natCast_zero, Int.add_zero] at h0
    split
    · rename_i hc
      rw [h0 hc.1] at hc
      cases hc.2
    · rfl
/-- what is freed of those that are no longer to come -/
def mix (gen : Int) (left : Int → Bool) : Nat → List St → List St
  | _, [] => []
  | fr, s :: r => (if left (fr : Int) = true then s else freedS gen s) :: mix gen left (fr + 1) r
theorem mix_length (gen : Int) (left : Int → Bool) : ∀ (l : List St) (fr : Nat), (mix gen left fr l).length = l.length
  | [], _ => rfl
  | s :: r, fr => by simp [mix, mix_length gen left r (fr + 1)]
theorem mix_at (gen : Int) (left : Int → Bool) : ∀ (l : List St) (fr i : Nat), (mix gen left fr l)[i]? = (l[i]?).map (fun s => if left ((fr : Int) + (i : Int)) = true then s else freedS gen s)
  | [], _, _ => by simp [mix]
  | s :: r, fr, 0 => by simp [mix]
  | s :: r, fr, i + 1 => by
    simp only [mix, List.getElem?_cons_succ]
    rw [mix_at gen left r (fr + 1) i, show (fr : Int) + ((i + 1 : Nat) : Int) = ((fr + 1 : Nat) : Int) + (i : Int) by omega]
theorem mix_step (gen : Int) (left : Int → Bool) (l : List St) (fr i : Nat) (s : St) (h : l[i]? = some s) :
    mix gen (fun z => left z && !decide (z = (fr : Int) + (i : Int))) fr l = (mix gen left fr l).set i (freedS gen s) := by
  apply List.ext_getElem?
  intro j
  rw [mix_at, List.getElem?_set, mix_length, mix_at]
  by_cases e : i = j
  · subst e
    obtain ⟨hl, rfl⟩ := List.getElem?_eq_some_iff.1 h
    simp [hl]
  · have hne : ¬ (fr : Int) + (j : Int) = (fr : Int) + (i : Int) := by omega
    simp [hne, e]
theorem mix_start (gen : Int) (left : Int → Bool) (l : List St) (fr : Nat) (h : ∀ (i : Nat) (x : Nat × Int), l[i]? = some (some x) → left ((fr : Int) + (i : Int)) = true) : mix gen left fr l = l := by
  apply List.ext_getElem?
  intro j
  rw [mix_at]
  cases hj : l[j]? with
  | none => rfl
  | some s =>
    cases s with
    | none => simp [freedS]
    | some x => simp [h j x hj]
theorem mix_end (gen : Int) (left : Int → Bool) (l : List St) (fr : Nat) (h : ∀ i, left i = false) : mix gen left fr l = freeM l gen := by
  apply List.ext_getElem?
  intro j
  rw [mix_at]
  simp [freeM, h]

theorem goodS_freed {gen : Int} {s : St} (h : goodS s) : goodS (freedS gen s) := by unfold freedS; split <;> trivial
theorem Ok.mix {fr : Nat} {l : List St} (h : Ok fr l) (gen : Int) (left : Int → Bool) : Ok fr (mix gen left fr l) := by
  refine ⟨by rw [mix_length]; exact h.few, fun s hs => ?_⟩
  obtain ⟨i, hi⟩ := List.getElem?_of_mem hs
  rw [mix_at] at hi
  cases hj : l[i]? with
  | none => rw [hj] at hi; cases hi
  | some x =>
    rw [hj] at hi
    have hx := h.good x (List.mem_of_getElem? hj)
    simp at hi
    subst hi
    split
    · exact hx
    · exact goodS_freed hx
theorem Ok.free {fr : Nat} {l : List St} (h : Ok fr l) (gen : Int) : Ok fr (freeM l gen) := by
  rw [← mix_end gen (fun _ => false) l fr (fun _ => rfl)]
  exact h.mix _ _
theorem Ok.take {fr : Nat} {l : List St} (h : Ok fr l) {gen : Int} (hg : I64 gen) : Ok fr (takeM l gen) := by
  unfold takeM
  split
  · refine ⟨by rw [List.length_set]; exact h.few, fun x hx => ?_⟩
    rcases List.mem_or_eq_of_mem_set hx with hx | hx
    · exact h.good x hx
    · rw [hx]; exact ⟨by decide, hg⟩
  · exact h
theorem Ok.mark {fr : Nat} {l : List St} (h : Ok fr l) (n : Int) {gen : Int} (hg : I64 gen) : Ok fr (markM fr l n gen) := by
  unfold markM
  split
  · exact h.upd n ⟨by decide, hg⟩
  · exact h
theorem Ok.hold {fr : Nat} {l : List St} (h : Ok fr l) (n : Int) : Ok fr (holdM fr l n) := by
  unfold holdM
  have hs := h.sec n
  split
  · exact h
  · rename_i hc
    refine h.upd n ?_
    cases hq : Go.Proofs.Ytkfpeffiphdhmaa.sec fr l n with
    | none => trivial
    | some x =>
      obtain ⟨c, g⟩ := x
      rw [hq] at hs hc
      cases c with
      | zero => exact hs
      | succ c =>
        have h1 : c + 1 ≤ 5000 := hs.1
        have h2 : ¬ c + 1 = 5000 := hc
        exact ⟨by omega, hs.2⟩
theorem Ok.drop {fr : Nat} {l : List St} (h : Ok fr l) (n : Int) {gen : Int} (hg : I64 gen) : Ok fr (dropM fr l n gen) := by
  unfold dropM
  have hs := h.sec n
  refine h.upd n ?_
  unfold dropS
  split
  · split
    · trivial
    · exact ⟨by decide, hg⟩
  · rename_i hq
    rw [hq] at hs
    exact ⟨by have := hs.1; omega, hs.2⟩
  · exact hs
theorem room_le (l : List St) : room l ≤ l.length := List.countP_le_length
theorem waiting_le (l : List St) : waiting l ≤ l.length := List.countP_le_length
theorem Ok.newM {fr to : Nat} (h : fr ≤ to) (h2 : to ≤ 4096) : Ok fr (newM fr to) := by
  refine ⟨by unfold Go.Proofs.Ytkfpeffiphdhmaa.newM; rw [List.length_replicate]; omega, fun s hs => ?_⟩
  rw [List.eq_of_mem_replicate hs]
  trivial
end Go.Proofs.Ytkfpeffiphdhmaa
