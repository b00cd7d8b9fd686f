/- What the calls answer, the document's and the program's: plain mathematics. -/
import Derived.Test.YtmpgaecnibakdaaDoorMa
namespace Go.Proofs.YtmpgaecnibakdaaDoor

/-! ### Read -/
def readR (l : List Pc) (size off n : Int) : List UInt8 := rowOf (min n (size - off)).toNat fun k => atR l (off + k)
def layAll (from' : Int) (b : List UInt8) (L : List Pc) : List UInt8 := L.foldl (fun b p => layR b p.2 (p.1 * 64 - from')) b
def readP (l : List Pc) (from' to : Int) : List UInt8 := layAll from' (List.replicate (to - from').toNat 0) ((l.take (cntB l ((to + 63) / 64))).drop (cntB l (from' / 64)))

theorem layAll_length (from' : Int) : ∀ (L : List Pc) (b : List UInt8), (∀ p ∈ L, p.1 * 64 - from' ≤ b.length) → (layAll from' b L).length = b.length
  | [], b, _ => rfl
  | p :: L, b, h => by
    have h1 := h p (by simp)
    show (layAll from' (layR b p.2 (p.1 * 64 - from')) L).length = _
    rw [layAll_length from' L _ (fun q hq => by rw [lay_length _ _ _ h1]; exact h q (by simp [hq])), lay_length _ _ _ h1]
theorem layAll_get (from' : Int) (k : Nat) : ∀ (L : List Pc) (b : List UInt8), k < b.length → (∀ p ∈ L, p.1 * 64 - from' ≤ b.length ∧ p.2.length = 64) → Sorted L →
    (layAll from' b L).getD k 0 = if (∃ p ∈ L, p.1 = (from' + k) / 64) then atR L (from' + k) else b.getD k 0
  | [], b, _, _, _ => by
    rw [if_neg (by simp)]
    rfl
  | p :: L, b, hk, h, hs => by
    have h1 := h p (by simp)
    obtain ⟨h2, h3⟩ := List.pairwise_cons.1 hs
    show (layAll from' (layR b p.2 (p.1 * 64 - from')) L).getD k 0 = _
    rw [layAll_get from' k L _ (by rw [lay_length _ _ _ h1.1]; exact hk) (fun q hq => by rw [lay_length _ _ _ h1.1]; exact h q (by simp [hq])) h3, lay_get _ _ _ h1.1 _ hk]
    by_cases hc : ∃ q ∈ L, q.1 = (from' + k) / 64
    · rw [if_pos hc]
      obtain ⟨q, hq, e⟩ := hc
      rw [if_pos ⟨q, by simp [hq], e⟩, at_mem h3 hq e, at_mem hs (by simp [hq]) e]
    · rw [if_neg hc]
      by_cases hp : p.1 = (from' + k) / 64
      · rw [if_pos (by omega), if_pos ⟨p, by simp, hp⟩, at_mem hs (by simp) hp]
        congr 1
        omega
      · rw [if_neg (by omega), if_neg]
        rintro ⟨q, hq, e⟩
        rcases List.mem_cons.1 hq with rfl | hq
        · exact hp e
        · exact hc ⟨q, hq, e⟩
theorem mem_mid {l : List Pc} (hs : Sorted l) {i j : Int} (hij : i ≤ j) (p : Pc) : p ∈ (l.take (cntB l j)).drop (cntB l i) ↔ p ∈ l ∧ i ≤ p.1 ∧ p.1 < j := by
  have h1 : (l.take (cntB l j)).drop (cntB l i) = (l.filter fun p => decide (p.1 < j)).filter fun p => decide (i ≤ p.1) := by
    have e : cntB l i = cntB (l.filter fun p => decide (p.1 < j)) i := by
      unfold cntB
      rw [List.filter_filter]
      congr 2
      funext q
      by_cases hq : q.1 < i
      · simp [hq]; omega
      · simp [hq]
    rw [take_cnt hs, e, drop_cnt (hs.filter _)]
  rw [h1, List.mem_filter, List.mem_filter]
  simp
  constructor
  · rintro ⟨⟨a, b⟩, c⟩; exact ⟨a, c, b⟩
  · rintro ⟨a, c, b⟩; exact ⟨⟨a, b⟩, c⟩
theorem mid_sorted {l : List Pc} (hs : Sorted l) (i j : Nat) : Sorted ((l.take j).drop i) := hs.sub ((List.drop_sublist _ _).trans (List.take_sublist _ _))
theorem read_eq {l : List Pc} {size : Int} (h : Right l size) {off n from' to : Int} (ho : 0 ≤ off) (hn : 0 ≤ n) (hf : from' = min off size) (ht : to = from' + min n (size - from')) : readP l from' to = readR l size off n := by
  have hlo := h.lo
  have hle : from' ≤ to := by omega
  have hmid := fun p => mem_mid h.so (i := from' / 64) (j := (to + 63) / 64) (by omega) p
  have hall : ∀ p ∈ (l.take (cntB l ((to + 63) / 64))).drop (cntB l (from' / 64)), p.1 * 64 - from' ≤ ((List.replicate (to - from').toNat (0 : UInt8)).length : Int) ∧ p.2.length = 64 := by
    intro p hp
    obtain ⟨h1, h2, h3⟩ := (hmid p).1 hp
    rw [List.length_replicate]
    exact ⟨by omega, (h.ok p h1).2.2.1⟩
  unfold readP readR
  have hlen : (min n (size - off)).toNat = (to - from').toNat := by omega
  rw [hlen]
  refine eq_rowOf ?_ ?_
  · rw [layAll_length _ _ _ (fun p hp => (hall p hp).1), List.length_replicate]
  · intro k hk
    rw [layAll_get _ _ _ _ (by rw [List.length_replicate]; exact hk) hall (mid_sorted h.so _ _)]
    have hfo : from' = off := by omega
    subst hfo
    by_cases hc : ∃ p ∈ (l.take (cntB l ((to + 63) / 64))).drop (cntB l (from' / 64)), p.1 = (from' + k) / 64
    · rw [if_pos hc]
      obtain ⟨p, hp, e⟩ := hc
      rw [at_mem (mid_sorted h.so _ _) hp e, at_mem h.so ((hmid p).1 hp).1 e]
    · rw [if_neg hc, getD_rep, at_none]
      intro p hp e
      exact hc ⟨p, (hmid p).2 ⟨hp, by omega, by omega⟩, e⟩

/-! ### Write -/
def pieceW (l : List Pc) (off : Int) (data : List UInt8) (i : Int) : Pc := (i, rowOf 64 fun k => if off ≤ i * 64 + k ∧ i * 64 + k - off < data.length then data.getD (i * 64 + k - off).toNat 0 else atR l (i * 64 + k))
theorem pieceW_get (l : List Pc) (off : Int) (data : List UInt8) (i : Int) (k : Nat) (hk : k < 64) : (pieceW l off data i).2.getD k 0 = if off ≤ i * 64 + k ∧ i * 64 + k - off < data.length then data.getD (i * 64 + k - off).toNat 0 else atR l (i * 64 + k) := by
  exact rowOf_get 64 (fun k => if off ≤ i * 64 + k ∧ i * 64 + k - off < data.length then data.getD (i * 64 + k - off).toNat 0 else atR l (i * 64 + k)) k hk
def writeR (l : List Pc) (off : Int) (data : List UInt8) (a : Int) (n : Nat) : List Pc := (l.filter fun p => decide (p.1 < a)) ++ (List.range n).map (fun (j : Nat) => pieceW l off data (a + (j : Int))) ++ l.filter fun p => decide (a + n ≤ p.1)
def bytesP (l : List Pc) (i : Int) : List UInt8 := if cntB l i < l.length ∧ (l.getD (cntB l i) (0, [])).1 = i then cpy (List.replicate 64 0) (l.getD (cntB l i) (0, [])).2 else List.replicate 64 0
def pieceP (l : List Pc) (off : Int) (data : List UInt8) (i : Int) : Pc := (i, layR (bytesP l i) data (off - i * 64))
def writeP (l : List Pc) (off : Int) (data : List UInt8) (a : Int) (n : Nat) : List Pc := l.take (cntB l a) ++ (List.range n).map (fun (j : Nat) => pieceP l off data (a + (j : Int))) ++ l.drop (cntB l (a + n))

theorem getD_mem {l : List Pc} {k : Nat} (h : k < l.length) : l.getD k (0, []) ∈ l := by
  rw [List.getD_eq_getElem?_getD, List.getElem?_eq_getElem h]
  exact List.getElem_mem _
theorem first_of {l : List Pc} (hs : Sorted l) {p : Pc} (hp : p ∈ l) : cntB l p.1 < l.length ∧ l.getD (cntB l p.1) (0, []) = p := by
  obtain ⟨k, hk, e⟩ := List.mem_iff_getElem.1 hp
  have e' : l.getD k (0, []) = p := by rw [List.getD_eq_getElem?_getD, List.getElem?_eq_getElem hk]; exact e
  have h1 := cnt_at hs p.1 hk
  rw [e', decide_eq_true (Int.le_refl _)] at h1
  have h1' : cntB l p.1 ≤ k := of_decide_eq_true h1.symm
  have hc : cntB l p.1 < l.length := by omega
  refine ⟨hc, ?_⟩
  have h2 := cnt_at hs p.1 hc
  rw [decide_eq_true (Nat.le_refl _)] at h2
  have h2' : p.1 ≤ (l.getD (cntB l p.1) (0, [])).1 := of_decide_eq_true h2
  by_cases hck : cntB l p.1 = k
  · rw [hck]; exact e'
  · have := List.pairwise_iff_getElem.1 hs (cntB l p.1) k hc hk (by omega)
    rw [e] at this
    rw [List.getD_eq_getElem?_getD, List.getElem?_eq_getElem hc] at h2'
    have h3 : (l[cntB l p.1]).1 < p.1 := this
    have h4 : p.1 ≤ (l[cntB l p.1]).1 := h2'
    omega
theorem bytes_eq {l : List Pc} (hs : Sorted l) (h64 : ∀ p ∈ l, p.2.length = 64) (i : Int) : bytesP l i = rowOf 64 fun k => atR l (i * 64 + k) := by
  unfold bytesP
  by_cases hc : cntB l i < l.length ∧ (l.getD (cntB l i) (0, [])).1 = i
  · rw [if_pos hc]
    have hm := getD_mem hc.1
    have hl := h64 _ hm
    refine eq_rowOf (by rw [cpy_length, List.length_replicate]) ?_
    intro k hk
    rw [cpy_get _ _ _ (by rw [List.length_replicate]; exact hk), if_pos (by omega), at_mem hs hm (by rw [hc.2]; omega)]
    congr 1
    omega
  · rw [if_neg hc]
    refine eq_rowOf (by rw [List.length_replicate]) ?_
    intro k hk
    rw [getD_rep, at_none]
    intro p hp e
    have := first_of hs hp
    have e' : p.1 = i := by omega
    rw [e'] at this
    exact hc ⟨this.1, by rw [this.2]; exact e'⟩
theorem piece_eq {l : List Pc} (hs : Sorted l) (h64 : ∀ p ∈ l, p.2.length = 64) (off : Int) (data : List UInt8) (i : Int) (hi : off - i * 64 ≤ 64) : pieceP l off data i = pieceW l off data i := by
  unfold pieceP pieceW
  rw [bytes_eq hs h64]
  congr 1
  have hl : off - i * 64 ≤ ((rowOf 64 fun k => atR l (i * 64 + k)).length : Int) := by rw [rowOf_length]; omega
  refine eq_rowOf (by rw [lay_length _ _ _ hl, rowOf_length]) ?_
  intro k hk
  rw [lay_get _ _ _ hl _ (by rw [rowOf_length]; exact hk), rowOf_get _ _ _ hk]
  by_cases hc : off ≤ i * 64 + k ∧ i * 64 + k - off < data.length
  · rw [if_pos (by omega), if_pos hc]
    congr 1
    omega
  · rw [if_neg (by omega), if_neg hc]
theorem write_eq {l : List Pc} (hs : Sorted l) (h64 : ∀ p ∈ l, p.2.length = 64) (off : Int) (data : List UInt8) (n : Nat) : writeP l off data (off / 64) n = writeR l off data (off / 64) n := by
  unfold writeP writeR
  rw [take_cnt hs, drop_cnt hs]
  congr 2
  exact List.map_congr_left fun j _ => piece_eq hs h64 _ _ _ (by omega)
theorem mem_write {l : List Pc} {off : Int} {data : List UInt8} {a : Int} {n : Nat} {p : Pc} : p ∈ writeR l off data a n ↔ (p ∈ l ∧ p.1 < a) ∨ (∃ j, j < n ∧ pieceW l off data (a + (j : Int)) = p) ∨ (p ∈ l ∧ a + n ≤ p.1) := by
  unfold writeR
  rw [List.mem_append, List.mem_append, List.mem_map, List.mem_filter, List.mem_filter]
  simp [or_assoc]
theorem write_sorted {l : List Pc} (hs : Sorted l) (off : Int) (data : List UInt8) (a : Int) (n : Nat) : Sorted (writeR l off data a n) := by
  unfold writeR Sorted
  refine List.pairwise_append.2 ⟨List.pairwise_append.2 ⟨hs.filter _, ?_, ?_⟩, hs.filter _, ?_⟩
  · rw [List.pairwise_map]
    exact List.pairwise_lt_range.imp (fun {x y} h => by show a + (x : Int) < a + (y : Int); omega)
  · intro p hp q hq
    obtain ⟨j, hj, rfl⟩ := List.mem_map.1 hq
    have := (List.mem_filter.1 hp).2
    simp at this
    show p.1 < a + (j : Int)
    omega
  · intro p hp q hq
    have hq' := (List.mem_filter.1 hq).2
    simp at hq'
    rcases List.mem_append.1 hp with hp | hp
    · have := (List.mem_filter.1 hp).2
      simp at this
      show p.1 < q.1
      omega
    · obtain ⟨j, hj, rfl⟩ := List.mem_map.1 hp
      have := List.mem_range.1 hj
      show a + (j : Int) < q.1
      omega
theorem write_none {l : List Pc} (hs : Sorted l) (off : Int) (data : List UInt8) (a : Int) : writeR l off data a 0 = l := by
  unfold writeR
  simp only [List.range_zero, List.map_nil, List.append_nil, Int.natCast_zero, Int.add_zero]
  exact split_at hs a
/-- the pieces with one more, or another one -/
def putR (l : List Pc) (p : Pc) : List Pc := l.takeWhile (fun q => decide (q.1 < p.1)) ++ [p] ++ (l.dropWhile (fun q => decide (q.1 < p.1))).filter fun q => decide (q.1 ≠ p.1)
def docW (off : Int) (data : List UInt8) (a : Int) (n : Nat) (l : List Pc) : List Pc := (List.range n).foldl (fun m (j : Nat) => putR m (pieceW m off data (a + (j : Int)))) l
theorem docW_succ (off : Int) (data : List UInt8) (a : Int) (n : Nat) (l : List Pc) : docW off data a (n + 1) l = putR (docW off data a n l) (pieceW (docW off data a n l) off data (a + (n : Int))) := by
  unfold docW
  rw [List.range_succ, List.foldl_append]
  rfl
theorem docW_eq {l : List Pc} (hs : Sorted l) (off : Int) (data : List UInt8) (a : Int) : ∀ n : Nat, docW off data a n l = writeR l off data a n
  | 0 => (write_none hs off data a).symm
  | n + 1 => by
    rw [docW_succ, docW_eq hs off data a n]
    have hm := write_sorted hs off data a n
    have hp : pieceW (writeR l off data a n) off data (a + (n : Int)) = pieceW l off data (a + (n : Int)) := by
      unfold pieceW
      congr 1
      refine rowOf_eq fun k hk => ?_
      split
      · rfl
      · refine at_same hm hs fun p hp => ?_
        rw [mem_write]
        constructor
        · rintro (h | ⟨j, hj, rfl⟩ | h)
          · exact h.1
          · have : a + (j : Int) = (( a + (n : Int)) * 64 + k) / 64 := hp
            omega
          · exact h.1
        · intro h
          exact .inr (.inr ⟨h, by omega⟩)
    rw [hp]
    have hall : ∀ q ∈ (l.filter fun p => decide (p.1 < a)) ++ (List.range n).map (fun (j : Nat) => pieceW l off data (a + (j : Int))), decide (q.1 < (pieceW l off data (a + (n : Int))).1) = true := by
      intro q hq
      rw [decide_eq_true_iff]
      show q.1 < a + (n : Int)
      rcases List.mem_append.1 hq with hq | hq
      · have := (List.mem_filter.1 hq).2
        simp at this
        omega
      · obtain ⟨j, hj, rfl⟩ := List.mem_map.1 hq
        have := List.mem_range.1 hj
        show a + (j : Int) < _
        omega
    have hno : ∀ q ∈ (l.filter fun p => decide (a + (n : Int) ≤ p.1)), ¬ decide (q.1 < (pieceW l off data (a + (n : Int))).1) = true := by
      intro q hq
      rw [decide_eq_true_iff]
      show ¬ q.1 < a + (n : Int)
      have := (List.mem_filter.1 hq).2
      simp at this
      omega
    have htake : (writeR l off data a n).takeWhile (fun q => decide (q.1 < (pieceW l off data (a + (n : Int))).1)) = (l.filter fun p => decide (p.1 < a)) ++ (List.range n).map (fun (j : Nat) => pieceW l off data (a + (j : Int))) := by
      unfold writeR
      rw [List.takeWhile_append_of_pos hall]
      conv => rhs; rw [← List.append_nil ((l.filter fun p => decide (p.1 < a)) ++ _)]
      congr 1
      cases hc : (l.filter fun p => decide (a + (n : Int) ≤ p.1)) with
      | nil => rfl
      | cons q r => exact List.takeWhile_cons_of_neg (hno q (by rw [hc]; simp))
    have hdrop : (writeR l off data a n).dropWhile (fun q => decide (q.1 < (pieceW l off data (a + (n : Int))).1)) = l.filter fun p => decide (a + (n : Int) ≤ p.1) := by
      unfold writeR
      rw [List.dropWhile_append_of_pos hall]
      cases hc : (l.filter fun p => decide (a + (n : Int) ≤ p.1)) with
      | nil => rfl
      | cons q r => exact List.dropWhile_cons_of_neg (hno q (by rw [hc]; simp))
    unfold putR
    rw [htake, hdrop, List.filter_filter]
    unfold writeR
    rw [List.range_succ, List.map_append, List.map_cons, List.map_nil, ← List.append_assoc]
    congr 2
    funext q
    show (decide (q.1 ≠ a + (n : Int)) && decide (a + (n : Int) ≤ q.1)) = decide (a + ((n + 1 : Nat) : Int) ≤ q.1)
    rw [Bool.eq_iff_iff, Bool.and_eq_true, decide_eq_true_iff, decide_eq_true_iff, decide_eq_true_iff]
    omega
/-- how many pieces, the last one perhaps in part -/
def manyW (off len : Int) : Nat := ((off + len + 63) / 64 - off / 64).toNat
theorem at_write {l : List Pc} (hs : Sorted l) {off : Int} {data : List UInt8} (place : Int) :
    atR (writeR l off data (off / 64) (manyW off data.length)) place = if off ≤ place ∧ place - off < data.length then data.getD (place - off).toNat 0 else atR l place := by
  have hm := write_sorted hs off data (off / 64) (manyW off data.length)
  have e : off / 64 + (manyW off data.length : Int) = (off + data.length + 63) / 64 := by unfold manyW; omega
  by_cases hin : off / 64 ≤ place / 64 ∧ place / 64 < off / 64 + (manyW off data.length : Int)
  · obtain ⟨j, hj⟩ : ∃ j : Nat, place / 64 = off / 64 + (j : Int) := ⟨(place / 64 - off / 64).toNat, by omega⟩
    rw [at_mem hm (mem_write.2 (.inr (.inl ⟨j, by omega, rfl⟩))) (show off / 64 + (j : Int) = place / 64 from hj.symm)]
    rw [pieceW_get _ _ _ _ _ (by omega), ← hj]
    have e2 : place / 64 * 64 + ((place % 64).toNat : Int) = place := by omega
    rw [e2]
  · rw [if_neg (by omega)]
    refine at_same hm hs fun p hp => ?_
    rw [mem_write]
    constructor
    · rintro (h | ⟨j, hj, rfl⟩ | h)
      · exact h.1
      · have : off / 64 + (j : Int) = place / 64 := hp
        omega
      · exact h.1
    · intro h
      by_cases hlt : p.1 < off / 64
      · exact .inl ⟨h, hlt⟩
      · exact .inr (.inr ⟨h, by omega⟩)
theorem right_write {l : List Pc} {size : Int} (h : Right l size) {off : Int} {data : List UInt8} (ho : 0 ≤ off) (hM : off + data.length ≤ 4611686018427387904) :
    Right (writeR l off data (off / 64) (manyW off data.length)) (max size (off + data.length)) := by
  have h1 := h.lo
  have h2 := h.hi
  have e : off / 64 + (manyW off data.length : Int) = (off + data.length + 63) / 64 := by unfold manyW; omega
  have hold : ∀ p ∈ l, PieceOk (max size (off + data.length)) p := fun p hp => by
    obtain ⟨a, b, c, d⟩ := h.ok p hp
    exact ⟨a, by omega, c, fun k hk hs => d k hk (by omega)⟩
  refine ⟨by omega, by omega, fun p hp => ?_, write_sorted h.so _ _ _ _⟩
  rcases mem_write.1 hp with hp | ⟨j, hj, rfl⟩ | hp
  · exact hold p hp.1
  · refine ⟨?_, ?_, rowOf_length _ _, ?_⟩
    · show 0 ≤ off / 64 + (j : Int)
      omega
    · show (off / 64 + (j : Int)) * 64 < _
      omega
    · intro k hk hs
      have hs' : max size (off + data.length) ≤ (off / 64 + (j : Int)) * 64 + k := hs
      rw [pieceW_get _ _ _ _ _ hk, if_neg (by omega)]
      exact at_behind h (by omega)
  · exact hold p hp.1
end Go.Proofs.YtmpgaecnibakdaaDoor
