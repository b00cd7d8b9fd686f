/- Sectors in the program's map: the map is that of a list of states. -/
import Derived.Test.YtkfpeffiphdhmaaKit
namespace Go.Proofs.Ytkfpeffiphdhmaa
open Go.ChangeShapes Go.WideShapes Go.ChangeAt Go.RowKit Go.Maps

/-- a sector as a value -/
def secV : St → Value
  | some (h, g) => .agg #[.int .i64 (h : Int), .int .i64 g]
  | none => .agg #[.int .i64 0, .int .i64 0]
def datum (h : Nat) (g : Int) : DataW Unit := .agg [.lit (.int .i64 (h : Int)), .lit (.int .i64 g)]

/-- how a sector in a map reads -/
def secR : Value → Option (DataW Unit × List MemPlace)
  | .agg cs => match cs.toList with
    | [.int .i64 h, .int .i64 g] => if 0 ≤ h then some (datum h.toNat g, []) else none
    | _ => none
  | _ => none
theorem secR_mk (h : Nat) (g : Int) : secR (.agg #[.int .i64 (h : Int), .int .i64 g]) = some (datum h g, []) := by
  simp [secR]
theorem secR_inv {v : Value} {z : DataW Unit × List MemPlace} (hv : secR v = some z) : ∃ (h : Nat) (g : Int), v = .agg #[.int .i64 (h : Int), .int .i64 g] ∧ z = (datum h g, []) := by
  unfold secR at hv
  split at hv
  · rename_i cs
    split at hv
    · rename_i h g hs
      split at hv
      · rename_i h0
        cases hv
        refine ⟨h.toNat, g, ?_, rfl⟩
        rw [Int.toNat_of_nonneg h0, ← Array.toArray_toList (xs := cs), hs]
      · cases hv
    · cases hv
  · cases hv
theorem datum_inj {h h' : Nat} {g g' : Int} (e : datum h g = datum h' g') : h = h' ∧ g = g' := by
  unfold datum at e
  simp at e
  omega

theorem law3 : Keyed Try.prog 3 := int_keyed Try.underlying3
theorem zero56 (w : World) : (zeroValue 56).run Try.prog w = .ok (.agg #[.int .i64 0, .int .i64 0]) w := by kernel_rfl
theorem key3 {n : Int} (h : I64 n) : keyOf Try.prog 3 (.int .i64 n) = some (.int .i64 n) := keyOf_int_mk Try.underlying3 (WalkArith.wf_i64 (by unfold I64 at h; omega))
theorem key3_inv {v : Value} {kl : Lit} (h : keyOf Try.prog 3 v = some kl) : ∃ x : Int, v = .int .i64 x ∧ kl = .int .i64 x := by
  obtain ⟨x, e, e2, _⟩ := keyOf_int_inv Try.underlying3 h
  exact ⟨x, e, e2⟩

/-- the entries of a list of states -/
def ents : Nat → List St → List (Lit × DataW Unit)
  | _, [] => []
  | fr, none :: r => ents (fr + 1) r
  | fr, some (h, g) :: r => (.int .i64 (fr : Int), datum h g) :: ents (fr + 1) r
def mp (fr : Nat) (l : List St) : DataW Unit := .map (ents fr l)

theorem ents_mem : ∀ (l : List St) (fr : Nat) (p : Lit × DataW Unit), p ∈ ents fr l ↔ ∃ (i h : Nat) (g : Int), l[i]? = some (some (h, g)) ∧ p = (.int .i64 ((fr : Int) + (i : Int)), datum h g)
  | [], fr, p => by simp [ents]
  | s :: r, fr, p => by
    have ih := ents_mem r (fr + 1) p
    have e : ∀ i : Nat, ((fr + 1 : Nat) : Int) + (i : Int) = (fr : Int) + ((i + 1 : Nat) : Int) := fun i => by omega
    have step : (∃ (i h : Nat) (g : Int), (s :: r)[i]? = some (some (h, g)) ∧ p = (.int .i64 ((fr : Int) + (i : Int)), datum h g)) ↔ (∃ h g, s = some (h, g) ∧ p = (.int .i64 (fr : Int), datum h g)) ∨ p ∈ ents (fr + 1) r := by
      rw [ih]
      constructor
      · rintro ⟨i, h, g, hi, hp⟩
        cases i with
        | zero => simp at hi; exact .inl ⟨h, g, hi, by simpa using hp⟩
        | succ i => exact .inr ⟨i, h, g, by simpa using hi, by rw [e i]; exact hp⟩
      · rintro (⟨h, g, hs, hp⟩ | ⟨i, h, g, hi, hp⟩)
        · exact ⟨0, h, g, by simp [hs], by simpa using hp⟩
        · exact ⟨i + 1, h, g, by simpa using hi, by rw [e i] at hp; exact hp⟩
    rw [step]
    cases s with
    | none => simp [ents]
    | some x =>
      obtain ⟨h, g⟩ := x
      simp only [ents, List.mem_cons]
      constructor
      · rintro (hp | hp)
        · exact .inl ⟨h, g, rfl, hp⟩
        · exact .inr hp
      · rintro (⟨h', g', he, hp⟩ | hp)
        · cases he
          exact .inl hp
        · exact .inr hp
theorem ents_canon (l : List St) (fr : Nat) : Canon (mp fr l) := by
  refine ⟨_, rfl, ?_, fun p hp => ?_⟩
  · induction l generalizing fr with
    | nil => exact List.Pairwise.nil
    | cons s r ih =>
      cases s with
      | none => exact ih (fr + 1)
      | some x =>
        obtain ⟨h, g⟩ := x
        refine List.pairwise_cons.2 ⟨fun q hq => ?_, ih (fr + 1)⟩
        obtain ⟨i, h', g', _, rfl⟩ := (ents_mem r (fr + 1) q).1 hq
        simp [Lit.before]
        omega
  · obtain ⟨i, h, g, _, rfl⟩ := (ents_mem l fr p).1 hp
    trivial
theorem sec_mem {fr : Nat} {l : List St} {n : Int} {h : Nat} {g : Int} : sec fr l n = some (h, g) ↔ ∃ i : Nat, l[i]? = some (some (h, g)) ∧ n = (fr : Int) + (i : Int) := by
  constructor
  · intro hs
    have hi := sec_some hs
    refine ⟨ix fr n, by rw [sec_at hi, hs], ?_⟩
    have := ix_eq hi
    omega
  · rintro ⟨i, hi, rfl⟩
    obtain ⟨hl, he⟩ := List.getElem?_eq_some_iff.1 hi
    rw [sec_of hl, he]
theorem mp_has (fr : Nat) (l : List St) (n : Int) : Maps.has (mp fr l) (.int .i64 n) = (sec fr l n).isSome := by
  apply Bool.eq_iff_iff.2
  unfold mp
  rw [Maps.has_eq, List.any_eq_true]
  constructor
  · rintro ⟨p, hp, hk⟩
    obtain ⟨i, h, g, hi, rfl⟩ := (ents_mem l fr p).1 hp
    simp [Lit.sameKey] at hk
    rw [sec_mem.2 ⟨i, hi, hk.symm⟩]
    rfl
  · intro hs
    obtain ⟨x, hx⟩ := Option.isSome_iff_exists.1 hs
    obtain ⟨h, g⟩ := x
    obtain ⟨i, hi, rfl⟩ := sec_mem.1 hx
    exact ⟨_, (ents_mem l fr _).2 ⟨i, h, g, hi, rfl⟩, by simp [Lit.sameKey]⟩
theorem mp_has_key (fr : Nat) (l : List St) (kl : Lit) (h : Maps.has (mp fr l) kl = true) : ∃ (i h' : Nat) (g : Int), l[i]? = some (some (h', g)) ∧ kl = .int .i64 ((fr : Int) + (i : Int)) := by
  unfold mp at h
  rw [Maps.has_eq, List.any_eq_true] at h
  obtain ⟨p, hp, hk⟩ := h
  obtain ⟨i, h, g, hi, rfl⟩ := (ents_mem l fr p).1 hp
  exact ⟨i, h, g, hi, (WideAt.sameKey_eq hk).symm⟩
theorem mp_at {fr : Nat} {l : List St} {n : Int} {h : Nat} {g : Int} (hs : sec fr l n = some (h, g)) (z : DataW Unit) : (mp fr l).atKey (.int .i64 n) z = datum h g := by
  obtain ⟨es, he, hp, hk⟩ := ents_canon l fr
  obtain ⟨i, hi, rfl⟩ := sec_mem.1 hs
  exact WideAt.atKey_mem z trivial (Maps.apart_of_rising (by cases he; exact hp)) ((ents_mem l fr _).2 ⟨i, h, g, hi, rfl⟩)
theorem mp_size : ∀ (l : List St) (fr : Nat), Maps.size (mp fr l) + room l = l.length
  | [], _ => rfl
  | none :: r, fr => by
    have := mp_size r (fr + 1)
    unfold mp room at *
    simp only [Maps.size_eq, ents, List.countP_cons, List.length_cons, freeS] at *
    simp
    omega
  | some (h, g) :: r, fr => by
    have := mp_size r (fr + 1)
    unfold mp room at *
    simp only [Maps.size_eq, ents, List.countP_cons, List.length_cons, freeS] at *
    simp
    omega
theorem mp_put {fr : Nat} {l : List St} {n : Int} (hi : In fr l n) (h : Nat) (g : Int) (hc : Canon ((mp fr l).put (.int .i64 n) (datum h g))) : (mp fr l).put (.int .i64 n) (datum h g) = mp fr (upd fr l n (some (h, g))) := by
  have hm : IsMap (mp fr l) := ⟨_, rfl⟩
  refine Maps.ext hc (ents_canon _ _) (fun k => ?_) (fun k z hk => ?_)
  · by_cases e : k = .int .i64 n
    · subst e
      rw [has_put_same hm (k := .int .i64 n) trivial, mp_has, sec_upd hi]
      rfl
    · rw [has_put_other e]
      cases hh : Maps.has (mp fr l) k with
      | true =>
        obtain ⟨i, h', g', hl, rfl⟩ := mp_has_key _ _ _ hh
        rw [mp_has, sec_upd_ne (fun e' => e (by rw [e'])), ← mp_has, hh]
      | false =>
        cases hh2 : Maps.has (mp fr (upd fr l n (some (h, g)))) k with
        | false => rfl
        | true =>
          obtain ⟨i, h', g', hl, rfl⟩ := mp_has_key _ _ _ hh2
          rw [mp_has, sec_upd_ne (fun e' => e (by rw [e'])), ← mp_has, hh] at hh2
          exact hh2
  · by_cases e : k = .int .i64 n
    · subst e
      rw [atKey_put_same hm (k := .int .i64 n) trivial, mp_at (sec_upd hi)]
    · rw [has_put_other e] at hk
      rw [atKey_put_other e]
      obtain ⟨i, h', g', hl, rfl⟩ := mp_has_key _ _ _ hk
      have h1 : sec fr l ((fr : Int) + (i : Int)) = some (h', g') := sec_mem.2 ⟨i, hl, rfl⟩
      rw [mp_at h1, mp_at (by rw [sec_upd_ne (fun e' => e (by rw [e']))]; exact h1)]
theorem mp_del {fr : Nat} {l : List St} {n : Int} (hi : In fr l n) (hc : Canon ((mp fr l).del (.int .i64 n))) : (mp fr l).del (.int .i64 n) = mp fr (upd fr l n none) := by
  refine Maps.ext hc (ents_canon _ _) (fun k => ?_) (fun k z hk => ?_)
  · by_cases e : k = .int .i64 n
    · subst e
      rw [has_del_same, mp_has, sec_upd hi]
      rfl
    · rw [has_del_other e]
      cases hh : Maps.has (mp fr l) k with
      | true =>
        obtain ⟨i, h', g', hl, rfl⟩ := mp_has_key _ _ _ hh
        rw [mp_has, sec_upd_ne (fun e' => e (by rw [e'])), ← mp_has, hh]
      | false =>
        cases hh2 : Maps.has (mp fr (upd fr l n none)) k with
        | false => rfl
        | true =>
          obtain ⟨i, h', g', hl, rfl⟩ := mp_has_key _ _ _ hh2
          rw [mp_has, sec_upd_ne (fun e' => e (by rw [e'])), ← mp_has, hh] at hh2
          exact hh2
  · by_cases e : k = .int .i64 n
    · subst e
      rw [has_del_same] at hk
      cases hk
    · rw [has_del_other e] at hk
      rw [atKey_del_other e]
      obtain ⟨i, h', g', hl, rfl⟩ := mp_has_key _ _ _ hk
      have h1 : sec fr l ((fr : Int) + (i : Int)) = some (h', g') := sec_mem.2 ⟨i, hl, rfl⟩
      rw [mp_at h1, mp_at (by rw [sec_upd_ne (fun e' => e (by rw [e']))]; exact h1)]

/-- block b is the map of these sectors -/
def Sec (w : World) (b fr : Nat) (l : List St) : Prop := w.ownsMap Try.prog 3 secR b 4096 (mp fr l)

theorem ownsMap_tight {w : World} {b n m : Nat} {D : DataW Unit} (h : w.ownsMap Try.prog 3 secR b n D) (hm : Maps.size D ≤ m) : w.ownsMap Try.prog 3 secR b m D := by
  obtain ⟨es, clock, hb, F, hs, hD⟩ := h
  refine ⟨es, clock, hb, F, ?_, hD⟩
  rw [hD] at hm
  simpa [Maps.size, length_sorted] using hm

variable {w w' : World} {b fr : Nat} {l : List St}

theorem mp_size_le (hok : Ok fr l) : Maps.size (mp fr l) ≤ 4096 := by
  have := mp_size l fr
  have := hok.few
  omega
theorem Sec.lt (h : Sec w b fr l) : b < w.heap.size := World.ownsMap.lt h
theorem Sec.same (h : Sec w b fr l) (hb : w'.heap[b]? = w.heap[b]?) : Sec w' b fr l := by
  obtain ⟨es, clock, h1, r1⟩ := h
  exact ⟨es, clock, hb.trans h1, r1⟩
theorem Sec.kind (h : Sec w b fr l) : ∃ es clock, w.heap[b]? = some (.map es clock) := by
  obtain ⟨es, clock, h1, _⟩ := h
  exact ⟨es, clock, h1⟩
theorem ents_new (k fr : Nat) : ents fr (List.replicate k none) = [] := by
  induction k generalizing fr with
  | zero => rfl
  | succ k ih => rw [List.replicate_succ]; exact ih (fr + 1)
theorem Sec.made (w : World) (k : Nat) : Sec (w.alloc (.map #[] 0)) w.heap.size fr (List.replicate k none) := by
  unfold Sec mp
  rw [ents_new]
  exact (World.ownsMap_made w Try.prog 3 secR).mono (Nat.zero_le _)
theorem Sec.look_any (h : Sec w b fr l) {n : Int} (hn : I64 n) : (Instr.lookup 47 (.map (some b)) (.int .i64 n) true).run Try.prog w = .ok (.tuple #[secV (sec fr l n), .bool (sec fr l n).isSome]) w ∧
    (Instr.lookup 47 (.map (some b)) (.int .i64 n) false).run Try.prog w = .ok (secV (sec fr l n)) w := by
  have z0 : secR (.agg #[.int .i64 0, .int .i64 0]) = some (datum 0 0, []) := secR_mk 0 0
  obtain ⟨v, ps, hrun, hv⟩ := World.ownsMap.look_ok h law3 Try.underlying47 (zero56 w) z0 (key3 hn)
  obtain ⟨v2, ps2, hrun2, hv2⟩ := World.ownsMap.lookup h law3 Try.underlying47 (zero56 w) z0 (key3 hn)
  have key : ∀ v ps, secR v = some ((mp fr l).atKey (.int .i64 n) (datum 0 0), ps) → v = secV (sec fr l n) := by
    intro v ps hv
    obtain ⟨h', g', rfl, hd⟩ := secR_inv hv
    have hd := congrArg Prod.fst hd
    simp only at hd
    cases hs : sec fr l n with
    | none =>
      have hh : Maps.has (mp fr l) (.int .i64 n) = false := by rw [mp_has, hs]; rfl
      rw [Maps.atKey_of_not_has hh] at hd
      obtain ⟨e1, e2⟩ := datum_inj hd
      subst e1 e2
      rfl
    | some x =>
      obtain ⟨h2, g2⟩ := x
      rw [mp_at hs] at hd
      obtain ⟨e1, e2⟩ := datum_inj hd
      subst e1 e2
      rfl
  rw [hrun, hrun2, mp_has, key v ps hv, key v2 ps2 hv2]
  exact ⟨rfl, rfl⟩
theorem Sec.store (h : Sec w b fr l) (hok : Ok fr l) {n : Int} (hi : In fr l n) (c : Nat) (g : Int) :
    ∃ w', (Instr.mapUpdate 47 (.map (some b)) (.int .i64 n) (.agg #[.int .i64 (c : Int), .int .i64 g])).run Try.prog w = .ok () w' ∧ Sec w' b fr (upd fr l n (some (c, g))) ∧ w.grownBy w' (some b) := by
  have hn : I64 n := by have := hok.few; unfold In at hi; unfold I64; omega
  obtain ⟨w', hrun, hown, hg⟩ := World.ownsMap.update h law3 Try.underlying47 (by decide) (key3 hn) (secR_mk c g)
  rw [mp_put hi c g (hown.canon law3)] at hown
  refine ⟨w', hrun, ownsMap_tight hown ?_, hg⟩
  have h1 := mp_size (upd fr l n (some (c, g))) fr
  rw [upd_length] at h1
  have := hok.few
  omega
theorem Sec.del (h : Sec w b fr l) (hok : Ok fr l) {n : Int} (hi : In fr l n) (ty : TypeId) :
    ∃ w', (Builtin.delete_ #[47, 3] ty #[.map (some b), .int .i64 n]).run Try.prog w = .ok (.tuple #[]) w' ∧ Sec w' b fr (upd fr l n none) ∧ w.grownBy w' (some b) := by
  have hn : I64 n := by have := hok.few; unfold In at hi; unfold I64; omega
  obtain ⟨w', hrun, hown, hg⟩ := World.ownsMap.drop h law3 Try.underlying47 (key3 hn) ty
  rw [mp_del hi (hown.canon law3)] at hown
  exact ⟨w', hrun, hown, hg.grown⟩
end Go.Proofs.Ytkfpeffiphdhmaa
