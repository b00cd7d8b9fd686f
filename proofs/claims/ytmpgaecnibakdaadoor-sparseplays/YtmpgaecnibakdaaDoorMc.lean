/- Cut, punched, asked for ranges: plain mathematics. -/
import Derived.Test.YtmpgaecnibakdaaDoorMb
namespace Go.Proofs.YtmpgaecnibakdaaDoor

/-! ### zeros within a piece -/
def wipB (ix : Int) (d : List UInt8) (from' to : Int) : List UInt8 :=
  (cpy (List.replicate 64 0) d).take (insI ix from') ++ List.replicate (insI ix to - insI ix from') 0 ++ (cpy (List.replicate 64 0) d).drop (insI ix to)
def wipP (p : Pc) (from' to : Int) : Pc := (p.1, wipB p.1 p.2 from' to)
theorem ins_mono {ix a b : Int} (h : a ≤ b) : insI ix a ≤ insI ix b := by unfold insI; omega
theorem wip_length {ix : Int} {d : List UInt8} {a b : Int} (h : a ≤ b) : (wipB ix d a b).length = 64 := by
  have h1 := ins_mono (ix := ix) h
  have h2 := ins_le64 ix a
  have h3 := ins_le64 ix b
  unfold wipB
  rw [List.length_append, List.length_append, List.length_take, List.length_drop, cpy_length, List.length_replicate, List.length_replicate]
  omega
theorem wip_get {ix : Int} {d : List UInt8} {a b : Int} (h : a ≤ b) (hd : d.length = 64) {k : Nat} (hk : k < 64) : (wipB ix d a b).getD k 0 = if a ≤ ix * 64 + k ∧ ix * 64 + k < b then 0 else d.getD k 0 := by
  have h1 := ins_mono (ix := ix) h
  have h2 := ins_le64 ix a
  have h3 := ins_le64 ix b
  have ia := ins_le (ix := ix) (place := a) hk
  have ib := ins_le (ix := ix) (place := b) hk
  have hc : (cpy (List.replicate 64 0) d).getD k 0 = d.getD k 0 := by rw [cpy_get _ _ _ (by rw [List.length_replicate]; exact hk), if_pos (by omega)]
  have hcl : (cpy (List.replicate 64 0) d).length = 64 := by rw [cpy_length, List.length_replicate]
  unfold wipB
  rw [List.getD_eq_getElem?_getD, List.getElem?_append]
  by_cases c1 : k < insI ix b
  · rw [if_pos (by rw [List.length_append, List.length_take, List.length_replicate]; omega), List.getElem?_append]
    by_cases c2 : k < insI ix a
    · rw [if_pos (by rw [List.length_take]; omega), if_neg (by omega), List.getElem?_take, if_pos c2, ← List.getD_eq_getElem?_getD, hc]
    · rw [if_neg (by rw [List.length_take]; omega), if_pos (by omega), ← List.getD_eq_getElem?_getD, getD_rep]
  · rw [if_neg (by rw [List.length_append, List.length_take, List.length_replicate]; omega), if_neg (by omega), ← List.getD_eq_getElem?_getD, getD_drop', ← hc]
    congr 1
    rw [List.length_append, List.length_take, List.length_replicate]
    omega

/-! ### Truncate -/
def cutP (n : Int) (p : Pc) : Pc := (p.1, rowOf 64 fun k => if p.1 * 64 + k < n then p.2.getD k 0 else 0)
def truncR (l : List Pc) (n : Int) : List Pc := (l.filter fun p => decide (p.1 * 64 < n)).map (cutP n)
def truncP (l : List Pc) (n : Int) : List Pc :=
  if l.take (cntB l ((n + 63) / 64)) = [] then [] else (l.take (cntB l ((n + 63) / 64))).set ((l.take (cntB l ((n + 63) / 64))).length - 1) (wipP ((l.take (cntB l ((n + 63) / 64))).getD ((l.take (cntB l ((n + 63) / 64))).length - 1) (0, [])) n 4611686018427387904)
theorem cut_get (n : Int) (p : Pc) (k : Nat) (hk : k < 64) : (cutP n p).2.getD k 0 = if p.1 * 64 + k < n then p.2.getD k 0 else 0 := rowOf_get 64 (fun k => if p.1 * 64 + k < n then p.2.getD k 0 else 0) k hk
theorem cut_length (n : Int) (p : Pc) : (cutP n p).2.length = 64 := rowOf_length _ _
theorem pc_ext {p q : Pc} (h1 : p.1 = q.1) (h2 : p.2.length = 64) (h3 : q.2.length = 64) (h : ∀ k, k < 64 → p.2.getD k 0 = q.2.getD k 0) : p = q :=
  Prod.ext h1 (ext_getD (by omega) (fun k hk => h k (by omega)))
theorem trunc_eq {l : List Pc} {size n : Int} (h : Right l size) : truncP l n = truncR l n := by
  have hf : l.take (cntB l ((n + 63) / 64)) = l.filter fun p => decide (p.1 * 64 < n) := by
    rw [take_cnt h.so]
    congr 1
    funext p
    rw [decide_eq_decide]
    omega
  have hsz := h.hi
  unfold truncP truncR
  rw [hf]
  have hso := h.so.filter fun p => decide (p.1 * 64 < n)
  have hall : ∀ p ∈ (l.filter fun p => decide (p.1 * 64 < n)), p ∈ l ∧ p.1 * 64 < n := by
    intro p hp
    have := List.mem_filter.1 hp
    exact ⟨this.1, of_decide_eq_true this.2⟩
  generalize (l.filter fun p => decide (p.1 * 64 < n)) = t at hso hall
  by_cases ht : t = []
  · rw [if_pos ht, ht]; rfl
  · rw [if_neg ht]
    have hpos : 0 < t.length := List.length_pos_iff.2 ht
    apply List.ext_getElem (by rw [List.length_set, List.length_map])
    intro i h1 h2
    rw [List.length_map] at h2
    rw [List.getElem_map, List.getElem_set]
    have hi := hall _ (List.getElem_mem h2)
    have hk := h.ok _ hi.1
    by_cases hc : t.length - 1 = i
    · subst hc
      rw [if_pos rfl, List.getD_eq_getElem?_getD, List.getElem?_eq_getElem h2]
      show wipP t[t.length - 1] n 4611686018427387904 = _
      by_cases hn : n ≤ 4611686018427387904
      · refine pc_ext rfl (wip_length hn) (cut_length _ _) fun k hk' => ?_
        rw [cut_get _ _ _ hk']
        show (wipB _ _ _ _).getD k 0 = _
        rw [wip_get hn hk.2.2.1 hk']
        have := hk.2.1
        by_cases c : t[t.length - 1].1 * 64 + (k : Int) < n
        · rw [if_neg (by omega), if_pos c]
        · rw [if_pos (by omega), if_neg c]
      · have hw : insI t[t.length - 1].1 n = 64 := by have := hk.2.1; unfold insI; omega
        have hw2 : insI t[t.length - 1].1 4611686018427387904 = 64 := by have := hk.2.1; unfold insI; omega
        refine pc_ext rfl ?_ (cut_length _ _) fun k hk' => ?_
        · show (wipB _ _ _ _).length = 64
          unfold wipB
          rw [hw, hw2, List.length_append, List.length_append, List.length_take, List.length_drop, cpy_length, List.length_replicate, List.length_replicate]
          rfl
        · rw [cut_get _ _ _ hk', if_pos (by have := hk.2.1; omega)]
          show (wipB _ _ _ _).getD k 0 = _
          unfold wipB
          rw [hw, hw2, Nat.sub_self, List.replicate_zero, List.append_nil, List.take_append_drop, cpy_get _ _ _ (by rw [List.length_replicate]; exact hk'), if_pos (by have := hk.2.2.1; omega)]
    · rw [if_neg hc]
      have hlast := hall _ (List.getElem_mem (show t.length - 1 < t.length by omega))
      have hlt : t[i].1 < t[t.length - 1].1 := List.pairwise_iff_getElem.1 hso i (t.length - 1) h2 (by omega) (by omega)
      refine pc_ext rfl hk.2.2.1 (cut_length _ _) fun k hk' => ?_
      rw [cut_get _ _ _ hk', if_pos (by omega)]
theorem mem_trunc {l : List Pc} {n : Int} {p : Pc} : p ∈ truncR l n ↔ ∃ q ∈ l, q.1 * 64 < n ∧ cutP n q = p := by
  unfold truncR
  rw [List.mem_map]
  constructor
  · rintro ⟨q, hq, e⟩
    have := List.mem_filter.1 hq
    exact ⟨q, this.1, of_decide_eq_true this.2, e⟩
  · rintro ⟨q, hq, h, e⟩
    exact ⟨q, List.mem_filter.2 ⟨hq, decide_eq_true h⟩, e⟩
theorem trunc_sorted {l : List Pc} (hs : Sorted l) (n : Int) : Sorted (truncR l n) := by
  unfold truncR Sorted
  rw [List.pairwise_map]
  exact hs.filter _
theorem right_trunc {l : List Pc} {size n : Int} (h : Right l size) (h0 : 0 ≤ n) (hn : n ≤ 4611686018427387904) : Right (truncR l n) n := by
  refine ⟨h0, hn, fun p hp => ?_, trunc_sorted h.so n⟩
  obtain ⟨q, hq, hl, rfl⟩ := mem_trunc.1 hp
  have := h.ok q hq
  refine ⟨this.1, hl, cut_length _ _, fun k hk hs => ?_⟩
  have hs' : n ≤ q.1 * 64 + (k : Int) := hs
  rw [cut_get _ _ _ hk, if_neg (by omega)]
theorem at_trunc {l : List Pc} (hs : Sorted l) (n place : Int) : atR (truncR l n) place = if place < n then atR l place else 0 := by
  rcases at_cases (trunc_sorted hs n) place with ⟨p, hp, e, ha⟩ | ⟨hn, ha⟩
  · obtain ⟨q, hq, hl, rfl⟩ := mem_trunc.1 hp
    have e' : q.1 = place / 64 := e
    rw [ha, cut_get _ _ _ (by omega), at_mem hs hq e']
    have : q.1 * 64 + ((place % 64).toNat : Int) = place := by omega
    rw [this]
  · rw [ha]
    by_cases hlt : place < n
    · rw [if_pos hlt, at_none]
      intro q hq e
      exact hn (cutP n q) (mem_trunc.2 ⟨q, hq, by omega, rfl⟩) e
    · rw [if_neg hlt]

/-! ### Punch -/
def punB (off n : Int) (p : Pc) : List UInt8 := rowOf 64 fun k => if off ≤ p.1 * 64 + k ∧ p.1 * 64 + k - off < n then 0 else p.2.getD k 0
def leftB (size off n : Int) (p : Pc) : Bool := (List.range 64).any fun (k : Nat) => decide (p.1 * 64 + (k : Int) < size) && !(decide (off ≤ p.1 * 64 + (k : Int)) && decide (p.1 * 64 + (k : Int) - off < n))
def punR (l : List Pc) (size off n : Int) : List Pc := l.filterMap fun p => if leftB size off n p = true then some (p.1, punB off n p) else none
def wholeB (size from' to : Int) (p : Pc) : Bool := decide (from' ≤ p.1 * 64) && decide (min (p.1 * 64 + 64) size ≤ to)
def punM (size from' to : Int) (l : List Pc) : List Pc := l.filterMap fun p => if wholeB size from' to p = true then none else some (wipP p from' to)
def punP (l : List Pc) (size from' to : Int) : List Pc := l.take (cntB l (from' / 64)) ++ punM size from' to ((l.take (cntB l ((to + 63) / 64))).drop (cntB l (from' / 64))) ++ l.drop (cntB l ((to + 63) / 64))
theorem left_iff {size off n : Int} {p : Pc} : leftB size off n p = true ↔ ∃ k : Nat, k < 64 ∧ p.1 * 64 + k < size ∧ ¬ (off ≤ p.1 * 64 + k ∧ p.1 * 64 + k - off < n) := by
  unfold leftB
  rw [List.any_eq_true]
  constructor
  · rintro ⟨k, hk, h⟩
    refine ⟨k, List.mem_range.1 hk, ?_⟩
    simp at h
    exact ⟨h.1, fun hc => by have := h.2; omega⟩
  · rintro ⟨k, hk, h1, h2⟩
    refine ⟨k, List.mem_range.2 hk, ?_⟩
    simp
    exact ⟨h1, by omega⟩
theorem pun_get (off n : Int) (p : Pc) (k : Nat) (hk : k < 64) : (punB off n p).getD k 0 = if off ≤ p.1 * 64 + k ∧ p.1 * 64 + k - off < n then 0 else p.2.getD k 0 := rowOf_get 64 (fun k => if off ≤ p.1 * 64 + k ∧ p.1 * 64 + k - off < n then 0 else p.2.getD k 0) k hk
theorem pun_length (off n : Int) (p : Pc) : (punB off n p).length = 64 := rowOf_length _ _
theorem filterMap_congr' {α β : Type} {f g : α → Option β} : ∀ {l : List α}, (∀ x ∈ l, f x = g x) → l.filterMap f = l.filterMap g
  | [], _ => rfl
  | a :: l, h => by
    rw [List.filterMap_cons, List.filterMap_cons, h a (by simp), filterMap_congr' (fun x hx => h x (by simp [hx]))]
theorem filterMap_self {α : Type} {f : α → Option α} : ∀ {l : List α}, (∀ x ∈ l, f x = some x) → l.filterMap f = l
  | [], _ => rfl
  | a :: l, h => by
    rw [List.filterMap_cons, h a (by simp), filterMap_self (fun x hx => h x (by simp [hx]))]
theorem three_parts (l : List Pc) {i j : Nat} (h : i ≤ j) : l = l.take i ++ (l.take j).drop i ++ l.drop j := by
  have e : l.take i = (l.take j).take i := by rw [List.take_take, Nat.min_eq_left h]
  rw [e, List.take_append_drop, List.take_append_drop]
theorem punch_eq {l : List Pc} {size : Int} (h : Right l size) {off n from' to : Int} (hn : 0 ≤ n) (hf : from' = min off size) (ht : to = from' + min n (size - from')) : punP l size from' to = punR l size off n := by
  have hlo := h.lo
  have hle : from' ≤ to := by omega
  have hin : ∀ place : Int, place < size → ((off ≤ place ∧ place - off < n) ↔ (from' ≤ place ∧ place < to)) := fun place hp => by omega
  have hcm : cntB l (from' / 64) ≤ cntB l ((to + 63) / 64) := cnt_mono (by omega)
  have hsame : ∀ p ∈ l, (∀ k : Nat, k < 64 → p.1 * 64 + k < size → ¬ (from' ≤ p.1 * 64 + k ∧ p.1 * 64 + k < to)) → (if leftB size off n p = true then some (p.1, punB off n p) else none) = some p := by
    intro p hp hk
    have ok := h.ok p hp
    have := ok.2.1
    rw [if_pos (left_iff.2 ⟨0, by omega, by omega, fun hc => hk 0 (by omega) (by omega) ((hin _ (by omega)).1 hc)⟩)]
    refine congrArg some (pc_ext rfl (pun_length _ _ _) ok.2.2.1 fun k hk' => ?_)
    show (punB _ _ _).getD k 0 = _
    rw [pun_get _ _ _ _ hk']
    by_cases hz : p.1 * 64 + (k : Int) < size
    · rw [if_neg (fun hc => hk k hk' hz ((hin _ hz).1 hc))]
    · rw [ok.2.2.2 k hk' (by omega)]
      split <;> rfl
  have hmem : ∀ p, p ∈ l.take (cntB l (from' / 64)) → p ∈ l ∧ p.1 < from' / 64 := by
    intro p hp
    rw [take_cnt h.so, List.mem_filter] at hp
    exact ⟨hp.1, of_decide_eq_true hp.2⟩
  have hmem3 : ∀ p, p ∈ l.drop (cntB l ((to + 63) / 64)) → p ∈ l ∧ (to + 63) / 64 ≤ p.1 := by
    intro p hp
    rw [drop_cnt h.so, List.mem_filter] at hp
    exact ⟨hp.1, of_decide_eq_true hp.2⟩
  have hmid := fun p => mem_mid h.so (i := from' / 64) (j := (to + 63) / 64) (by omega) p
  unfold punP punR
  conv => rhs; rw [three_parts l hcm]
  rw [List.filterMap_append, List.filterMap_append]
  congr 1
  · congr 1
    · refine (filterMap_self fun p hp => ?_).symm
      obtain ⟨h1, h2⟩ := hmem p hp
      exact hsame p h1 (fun k hk hs hc => by omega)
    · refine filterMap_congr' fun p hp => ?_
      obtain ⟨h1, h2, h3⟩ := (hmid p).1 hp
      have ok := h.ok p h1
      have hps := ok.2.1
      cases hw : wholeB size from' to p with
      | true =>
        rw [if_pos rfl, if_neg]
        rw [left_iff]
        rintro ⟨k, hk, hz, hc⟩
        unfold wholeB at hw
        rw [Bool.and_eq_true, decide_eq_true_iff, decide_eq_true_iff] at hw
        exact hc ((hin _ hz).2 ⟨by omega, by omega⟩)
      | false =>
        have hl : leftB size off n p = true := by
          rw [left_iff]
          by_cases hb : from' ≤ p.1 * 64
          · have hw2 : to < min (p.1 * 64 + 64) size := by
              unfold wholeB at hw
              rw [decide_eq_true hb, Bool.true_and, decide_eq_false_iff_not] at hw
              omega
            refine ⟨(min (p.1 * 64 + 64) size - 1 - p.1 * 64).toNat, by omega, by omega, fun hc => ?_⟩
            have := (hin _ (by omega)).1 hc
            omega
          · refine ⟨0, by omega, by omega, fun hc => ?_⟩
            have := (hin _ (by omega)).1 hc
            omega
        rw [if_neg (by decide), if_pos hl]
        refine congrArg some (pc_ext rfl (wip_length hle) (pun_length _ _ _) fun k hk' => ?_)
        show (wipB _ _ _ _).getD k 0 = (punB _ _ _).getD k 0
        rw [wip_get hle ok.2.2.1 hk', pun_get _ _ _ _ hk']
        by_cases hz : p.1 * 64 + (k : Int) < size
        · by_cases hc : off ≤ p.1 * 64 + (k : Int) ∧ p.1 * 64 + (k : Int) - off < n
          · rw [if_pos hc, if_pos ((hin _ hz).1 hc)]
          · rw [if_neg hc, if_neg (fun hh => hc ((hin _ hz).2 hh))]
        · rw [ok.2.2.2 k hk' (by omega)]
          split <;> split <;> rfl
  · refine (filterMap_self fun p hp => ?_).symm
    obtain ⟨h1, h2⟩ := hmem3 p hp
    exact hsame p h1 (fun k hk hs hc => by omega)
theorem mem_pun {l : List Pc} {size off n : Int} {p : Pc} : p ∈ punR l size off n ↔ ∃ q ∈ l, leftB size off n q = true ∧ (q.1, punB off n q) = p := by
  unfold punR
  rw [List.mem_filterMap]
  constructor
  · rintro ⟨q, hq, e⟩
    by_cases hl : leftB size off n q = true
    · rw [if_pos hl] at e
      exact ⟨q, hq, hl, Option.some.inj e⟩
    · rw [if_neg hl] at e
      cases e
  · rintro ⟨q, hq, hl, e⟩
    exact ⟨q, hq, by rw [if_pos hl, e]⟩
theorem pun_sorted {l : List Pc} (hs : Sorted l) (size off n : Int) : Sorted (punR l size off n) := by
  unfold punR Sorted
  rw [List.pairwise_filterMap]
  refine hs.imp fun {a b} hab p hp q hq => ?_
  have e1 : p.1 = a.1 := by
    by_cases hl : leftB size off n a = true
    · rw [if_pos hl] at hp
      rw [← Option.some.inj hp]
    · rw [if_neg hl] at hp
      cases hp
  have e2 : q.1 = b.1 := by
    by_cases hl : leftB size off n b = true
    · rw [if_pos hl] at hq
      rw [← Option.some.inj hq]
    · rw [if_neg hl] at hq
      cases hq
  omega
theorem right_pun {l : List Pc} {size : Int} (h : Right l size) (off n : Int) : Right (punR l size off n) size := by
  refine ⟨h.lo, h.hi, fun p hp => ?_, pun_sorted h.so _ _ _⟩
  obtain ⟨q, hq, _, rfl⟩ := mem_pun.1 hp
  have ok := h.ok q hq
  refine ⟨ok.1, ok.2.1, pun_length _ _ _, fun k hk hs => ?_⟩
  show (punB _ _ _).getD k 0 = 0
  rw [pun_get _ _ _ _ hk, ok.2.2.2 k hk hs]
  split <;> rfl
theorem at_pun {l : List Pc} {size : Int} (h : Right l size) (off n place : Int) (hp : place < size) : atR (punR l size off n) place = if off ≤ place ∧ place - off < n then 0 else atR l place := by
  rcases at_cases (pun_sorted h.so size off n) place with ⟨p, hp', e, ha⟩ | ⟨hn, ha⟩
  · obtain ⟨q, hq, hl, rfl⟩ := mem_pun.1 hp'
    have e' : q.1 = place / 64 := e
    rw [ha]
    show (punB _ _ _).getD _ 0 = _
    rw [pun_get _ _ _ _ (by omega), at_mem h.so hq e']
    have : q.1 * 64 + ((place % 64).toNat : Int) = place := by omega
    rw [this]
  · rw [ha]
    by_cases hc : off ≤ place ∧ place - off < n
    · rw [if_pos hc]
    · rw [if_neg hc, at_none]
      intro q hq e
      refine hn (q.1, punB off n q) (mem_pun.2 ⟨q, hq, left_iff.2 ⟨(place % 64).toNat, by omega, by omega, ?_⟩, rfl⟩) e
      have : q.1 * 64 + ((place % 64).toNat : Int) = place := by omega
      rw [this]
      exact hc

/-! ### Ranges -/
abbrev Rg := Int × Int
def lastTo (acc : List Rg) : Option Int := acc.getLast?.map (·.2)
def rngStep (size : Int) (acc : List Rg) (p : Pc) : List Rg :=
  if lastTo acc = some (p.1 * 64) then acc.dropLast ++ [((acc.getLast?.getD (0, 0)).1, min (p.1 * 64 + 64) size)] else acc ++ [(p.1 * 64, min (p.1 * 64 + 64) size)]
def rngR (l : List Pc) (size : Int) : List Rg := l.foldl (rngStep size) []
theorem rng_snoc (l : List Pc) (p : Pc) (size : Int) : rngR (l ++ [p]) size = rngStep size (rngR l size) p := by
  unfold rngR
  rw [List.foldl_append]
  rfl
theorem rng_last (l : List Pc) (p : Pc) (size : Int) : lastTo (rngR (l ++ [p]) size) = some (min (p.1 * 64 + 64) size) := by
  rw [rng_snoc]
  unfold rngStep lastTo
  split <;> simp
/-- the document asks whether the piece ahead is the one before -/
theorem rng_joins {l : List Pc} {q p : Pc} {size : Int} (h : Right (l ++ [q] ++ [p]) size) : lastTo (rngR (l ++ [q]) size) = some (p.1 * 64) ↔ q.1 + 1 = p.1 := by
  have hp := (h.ok p (by simp)).2.1
  rw [rng_last, Option.some_inj]
  omega
theorem rng_first (size : Int) : lastTo (rngR [] size) = none := rfl
theorem rng_len : ∀ (l : List Pc) (acc : List Rg) (size : Int), (l.foldl (rngStep size) acc).length ≤ acc.length + l.length
  | [], acc, _ => by simp
  | p :: l, acc, size => by
    have := rng_len l (rngStep size acc p) size
    have h2 : (rngStep size acc p).length ≤ acc.length + 1 := by
      unfold rngStep
      split
      · simp
      · simp
    rw [List.foldl_cons, List.length_cons]
    omega
structure RngOk (l : List Pc) (size : Int) (r : List Rg) : Prop where
  each : ∀ x ∈ r, x.1 < x.2 ∧ x.2 ≤ size
  apart : r.Pairwise (fun x y => x.2 < y.1)
  has : ∀ a : Int, a < size → ((∃ x ∈ r, x.1 ≤ a ∧ a < x.2) ↔ ∃ p ∈ l, p.1 = a / 64)
  last : ∀ x ∈ r, ∃ p ∈ l, x.2 ≤ p.1 * 64 + 64
theorem Right.front {l : List Pc} {p : Pc} {size : Int} (h : Right (l ++ [p]) size) : Right l size := ⟨h.lo, h.hi, fun q hq => h.ok q (by simp [hq]), h.so.sub (List.sublist_append_left _ _)⟩
theorem rng_ok : ∀ (n : Nat) (l : List Pc) (size : Int), l.length = n → Right l size → RngOk l size (rngR l size)
  | 0, l, size, hl, h => by
    obtain rfl := List.length_eq_zero_iff.1 hl
    exact ⟨by simp [rngR], by simp [rngR], by simp [rngR], by simp [rngR]⟩
  | n + 1, l, size, hl, h => by
    obtain ⟨l', p, rfl⟩ : ∃ l' p, l = l' ++ [p] := ⟨l.dropLast, l.getLast (by intro hh; rw [hh] at hl; cases hl), (List.dropLast_concat_getLast _).symm⟩
    rw [List.length_append, List.length_singleton] at hl
    have hr := rng_ok n l' size (by omega) h.front
    have hp := h.ok p (by simp)
    have hlt : ∀ q ∈ l', q.1 < p.1 := fun q hq => (List.pairwise_append.1 h.so).2.2 q hq p (by simp)
    have hbel : ∀ x ∈ rngR l' size, x.2 ≤ p.1 * 64 := by
      intro x hx
      obtain ⟨q, hq, hle⟩ := hr.last x hx
      have := hlt q hq
      omega
    rw [rng_snoc]
    have h2 := hp.2.1
    by_cases hc : lastTo (rngR l' size) = some (p.1 * 64)
    · unfold rngStep
      rw [if_pos hc]
      obtain ⟨r0, x, hrx⟩ : ∃ r0 x, rngR l' size = r0 ++ [x] := by
        cases hg : (rngR l' size).getLast? with
        | none => unfold lastTo at hc; rw [hg] at hc; cases hc
        | some x => exact ⟨_, x, (List.getLast?_eq_some_iff.1 hg).choose_spec⟩
      rw [hrx] at hc hr hbel ⊢
      have hx2 : x.2 = p.1 * 64 := by unfold lastTo at hc; simpa using hc
      rw [List.dropLast_concat]
      simp only [List.getLast?_append, List.getLast?_singleton, Option.some_or, Option.getD_some]
      obtain ⟨ha, hb, hcc⟩ := List.pairwise_append.1 hr.apart
      have hxe := hr.each x (by simp)
      refine ⟨?_, ?_, ?_, ?_⟩
      · intro y hy
        rcases List.mem_append.1 hy with hy | hy
        · exact hr.each y (by simp [hy])
        · obtain rfl := List.mem_singleton.1 hy
          show x.1 < min (p.1 * 64 + 64) size ∧ min (p.1 * 64 + 64) size ≤ size
          omega
      · refine List.pairwise_append.2 ⟨ha, by simp, ?_⟩
        intro y hy z hz
        obtain rfl := List.mem_singleton.1 hz
        exact hcc y hy x (by simp)
      · intro a has
        have hA := hr.has a has
        constructor
        · rintro ⟨y, hy, h3, h4⟩
          rcases List.mem_append.1 hy with hy | hy
          · obtain ⟨q, hq, e⟩ := hA.1 ⟨y, by simp [hy], h3, h4⟩
            exact ⟨q, by simp [hq], e⟩
          · obtain rfl := List.mem_singleton.1 hy
            have h4' : a < min (p.1 * 64 + 64) size := h4
            by_cases hap : a < p.1 * 64
            · obtain ⟨q, hq, e⟩ := hA.1 ⟨x, by simp, h3, by omega⟩
              exact ⟨q, by simp [hq], e⟩
            · exact ⟨p, by simp, by omega⟩
        · rintro ⟨q, hq, e⟩
          rcases List.mem_append.1 hq with hq | hq
          · obtain ⟨y, hy, h3, h4⟩ := hA.2 ⟨q, hq, e⟩
            rcases List.mem_append.1 hy with hy | hy
            · exact ⟨y, by simp [hy], h3, h4⟩
            · obtain rfl := List.mem_singleton.1 hy
              refine ⟨(y.1, min (p.1 * 64 + 64) size), by simp, h3, ?_⟩
              show a < min (p.1 * 64 + 64) size
              omega
          · obtain rfl := List.mem_singleton.1 hq
            refine ⟨(x.1, min (q.1 * 64 + 64) size), by simp, ?_, ?_⟩
            · show x.1 ≤ a
              omega
            · show a < min (q.1 * 64 + 64) size
              omega
      · intro y hy
        rcases List.mem_append.1 hy with hy | hy
        · obtain ⟨q, hq, e⟩ := hr.last y (by simp [hy])
          exact ⟨q, by simp [hq], e⟩
        · obtain rfl := List.mem_singleton.1 hy
          refine ⟨p, by simp, ?_⟩
          show min (p.1 * 64 + 64) size ≤ _
          omega
    · unfold rngStep
      rw [if_neg hc]
      have hstrict : ∀ x ∈ rngR l' size, x.2 < p.1 * 64 := by
        intro x hx
        have h3 := hbel x hx
        by_cases hxx : x.2 = p.1 * 64
        · exfalso
          obtain ⟨r0, y, hry⟩ : ∃ r0 y, rngR l' size = r0 ++ [y] := ⟨_, _, (List.dropLast_concat_getLast (by intro hh; rw [hh] at hx; cases hx)).symm⟩
          rw [hry] at hx hr hbel hc
          rcases List.mem_append.1 hx with hx | hx
          · have h4 : x.2 < y.1 := (List.pairwise_append.1 hr.apart).2.2 x hx y (by simp)
            have h5 := (hr.each y (by simp)).1
            have h6 := hbel y (by simp)
            omega
          · obtain rfl := List.mem_singleton.1 hx
            apply hc
            unfold lastTo
            simp [hxx]
        · omega
      refine ⟨?_, ?_, ?_, ?_⟩
      · intro y hy
        rcases List.mem_append.1 hy with hy | hy
        · exact hr.each y hy
        · obtain rfl := List.mem_singleton.1 hy
          show p.1 * 64 < min (p.1 * 64 + 64) size ∧ min (p.1 * 64 + 64) size ≤ size
          omega
      · refine List.pairwise_append.2 ⟨hr.apart, by simp, ?_⟩
        intro y hy z hz
        obtain rfl := List.mem_singleton.1 hz
        exact hstrict y hy
      · intro a has
        have hA := hr.has a has
        constructor
        · rintro ⟨y, hy, h3, h4⟩
          rcases List.mem_append.1 hy with hy | hy
          · obtain ⟨q, hq, e⟩ := hA.1 ⟨y, hy, h3, h4⟩
            exact ⟨q, by simp [hq], e⟩
          · obtain rfl := List.mem_singleton.1 hy
            have h3' : p.1 * 64 ≤ a := h3
            have h4' : a < min (p.1 * 64 + 64) size := h4
            exact ⟨p, by simp, by omega⟩
        · rintro ⟨q, hq, e⟩
          rcases List.mem_append.1 hq with hq | hq
          · obtain ⟨y, hy, h3⟩ := hA.2 ⟨q, hq, e⟩
            exact ⟨y, by simp [hy], h3⟩
          · obtain rfl := List.mem_singleton.1 hq
            refine ⟨(q.1 * 64, min (q.1 * 64 + 64) size), by simp, ?_, ?_⟩
            · show q.1 * 64 ≤ a
              omega
            · show a < min (q.1 * 64 + 64) size
              omega
      · intro y hy
        rcases List.mem_append.1 hy with hy | hy
        · obtain ⟨q, hq, e⟩ := hr.last y hy
          exact ⟨q, by simp [hq], e⟩
        · obtain rfl := List.mem_singleton.1 hy
          refine ⟨p, by simp, ?_⟩
          show min (p.1 * 64 + 64) size ≤ _
          omega
end Go.Proofs.YtmpgaecnibakdaaDoor
