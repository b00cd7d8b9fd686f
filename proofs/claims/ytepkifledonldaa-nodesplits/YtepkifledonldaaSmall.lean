/- The small functions: keys, which entries may be, which nodes are great. -/
import Derived.Test.YtepkifledonldaaNd
import Derived.WalkMore
namespace Go.Proofs.Ytepkifledonldaa
open Go.ChangeShapes Go.WideShapes Go.ChangeAt Go.RowKit

theorem ret_bool {a b : Bool} (h : a = b) : Ending.returned (.bool a) = .returned (.bool b) := by rw [h]

set_option maxHeartbeats 400000 in
theorem itemKey_any (k v : ByteArray) (w : World) : Calls Try.prog 34 #[.agg #[.string k, .string v]] w fun e w' => e = .returned (.string k) ∧ Below w.heap.size w w' := by
  go_enter Try.func34, Try.ntmps34
  go_wp2
  go_ret
  exact ⟨rfl, below_alloc _ _⟩
set_option maxHeartbeats 400000 in
theorem kidKey_any (k : ByteArray) (p : Int) (w : World) : Calls Try.prog 36 #[.agg #[.string k, .int .i64 p]] w fun e w' => e = .returned (.string k) ∧ Below w.heap.size w w' := by
  go_enter Try.func36, Try.ntmps36
  go_wp2
  go_ret
  exact ⟨rfl, below_alloc _ _⟩

theorem empty_of {s : ByteArray} (h : s.size = 0) : s.toList.isEmpty = true := by
  rw [ByteArray.toList_eq, List.isEmpty_iff, List.eq_nil_iff_length_eq_zero, Array.length_toList]
  exact h
theorem full_of' {s : ByteArray} (h : 0 < s.size) : s.toList.isEmpty = false := by
  rw [ByteArray.toList_eq, List.isEmpty_eq_false_iff]
  intro e
  have : s.data.toList.length = 0 := by rw [e]; rfl
  rw [Array.length_toList] at this
  exact absurd this (Nat.ne_of_gt h)

set_option maxHeartbeats 1000000 in
theorem mayItem_any (k v : ByteArray) (w : World) : Calls Try.prog 50 #[.agg #[.string k, .string v]] w fun e w' => e = .returned (.bool (mayI (k, v))) ∧ Below w.heap.size w w' := by
  by_cases h0 : 0 < k.size
  · have hf := full_of' h0
    by_cases h1 : k.size ≤ 272
    · by_cases h2 : v.size ≤ 160
      · have e : mayI (k, v) = true := by simp [mayI, h0, h1, h2]
        rw [e]
        clear e
        go_enter Try.func50, Try.ntmps50
        go_wp2
        go_ret
        exact ⟨by first | rfl | exact ret_bool (decide_eq_true (by omega)) | exact ret_bool (decide_eq_false (by omega)), below_alloc _ _⟩
      · have e : mayI (k, v) = false := by simp [mayI, h0, h1, h2]
        rw [e]
        clear e
        go_enter Try.func50, Try.ntmps50
        go_wp2
        go_ret
        exact ⟨by first | rfl | exact ret_bool (decide_eq_true (by omega)) | exact ret_bool (decide_eq_false (by omega)), below_alloc _ _⟩
    · have e : mayI (k, v) = false := by simp [mayI, h1]
      rw [e]
      clear e
      go_enter Try.func50, Try.ntmps50
      go_wp2
      go_ret
      exact ⟨by first | rfl | exact ret_bool (decide_eq_true (by omega)) | exact ret_bool (decide_eq_false (by omega)), below_alloc _ _⟩
  · have e : mayI (k, v) = false := by simp [mayI, h0]
    have hf := empty_of (s := k) (by omega)
    rw [e]
    clear e
    go_enter Try.func50, Try.ntmps50
    go_wp2
    go_ret
    exact ⟨by first | rfl | exact ret_bool (decide_eq_true (by omega)) | exact ret_bool (decide_eq_false (by omega)), below_alloc _ _⟩
set_option maxHeartbeats 1000000 in
theorem mayKid_any (k : ByteArray) (p : Int) (w : World) : Calls Try.prog 52 #[.agg #[.string k, .int .i64 p]] w fun e w' => e = .returned (.bool (mayK (k, p))) ∧ Below w.heap.size w w' := by
  by_cases h1 : k.size ≤ 272
  · by_cases h2 : 2 ≤ p
    · by_cases h3 : p < 4096
      · have e : mayK (k, p) = true := by simp [mayK, h1, h2, h3]
        rw [e]
        clear e
        go_enter Try.func52, Try.ntmps52
        go_wp2
        go_ret
        exact ⟨by first | rfl | exact ret_bool (decide_eq_true (by omega)) | exact ret_bool (decide_eq_false (by omega)), below_alloc _ _⟩
      · have e : mayK (k, p) = false := by simp [mayK, h3]
        rw [e]
        clear e
        go_enter Try.func52, Try.ntmps52
        go_wp2
        go_ret
        exact ⟨by first | rfl | exact ret_bool (decide_eq_true (by omega)) | exact ret_bool (decide_eq_false (by omega)), below_alloc _ _⟩
    · have e : mayK (k, p) = false := by simp [mayK, h2]
      rw [e]
      clear e
      go_enter Try.func52, Try.ntmps52
      go_wp2
      go_ret
      exact ⟨by first | rfl | exact ret_bool (decide_eq_true (by omega)) | exact ret_bool (decide_eq_false (by omega)), below_alloc _ _⟩
  · have e : mayK (k, p) = false := by simp [mayK, h1]
    rw [e]
    clear e
    go_enter Try.func52, Try.ntmps52
    go_wp2
    go_ret
    exact ⟨by first | rfl | exact ret_bool (decide_eq_true (by omega)) | exact ret_bool (decide_eq_false (by omega)), below_alloc _ _⟩

/-- no more than is asked -/
def Few (n : Nd) : Prop := n.its.length ≤ 300 ∧ n.kds.length ≤ 300 ∧ (∀ x ∈ n.its, x.1.size ≤ 1000 ∧ x.2.size ≤ 1000) ∧ (∀ x ∈ n.kds, x.1.size ≤ 1000)
def GreatSaid (n : Nd) (w : World) (e : Ending) (w' : World) : Prop := ∃ g, e = .returned (.bool g) ∧ (g = false → Few n) ∧ Below w.heap.size w w'
theorem all_of {α : Type} {l : List α} {p : α → Prop} (h : ∀ i x, i < l.length → l[i]? = some x → p x) : ∀ x ∈ l, p x := by
  intro x hx
  obtain ⟨i, hi, rfl⟩ := List.mem_iff_getElem.1 hx
  exact h i _ hi (List.getElem?_eq_getElem hi)

set_option maxRecDepth 10000 in
set_option maxHeartbeats 2000000 in
theorem great_any (n : Nd) (ai ak : Option Addr) (ci ck : Nat) (w : World) (hn : Has w n ai ak) (hil : n.its.length ≤ maxLen) (hkl : n.kds.length ≤ maxLen) :
    Calls Try.prog 9 #[.agg #[.bool n.leaf, .slice ai n.its.length ci, .slice ak n.kds.length ck]] w fun e w' => GreatSaid n w e w' := by
  obtain ⟨L, its, kds⟩ := n
  unfold maxLen at hil hkl
  simp only at hil hkl
  by_cases h1 : 300 < its.length
  · go_enter Try.func9, Try.ntmps9
    go_wp2
    go_ret
    exact ⟨true, rfl, fun h => by simp at h, below_alloc _ _⟩
  by_cases h2 : 300 < kds.length
  · go_enter Try.func9, Try.ntmps9
    go_wp2
    go_ret
    exact ⟨true, rfl, fun h => by simp at h, below_alloc _ _⟩
  have hi := hide (hn.1.grow (below_alloc w (.cells #[.bool L, .slice ai its.length ci, .slice ak kds.length ck] 25)))
  have hk := hide (hn.2.grow (below_alloc w (.cells #[.bool L, .slice ai its.length ci, .slice ak kds.length ck] 25)))
  simp only at hi hk
  clear hn
  go_enter Try.func9, Try.ntmps9
  go_wp2
  go_loop [3] (fun t => ∃ k : Nat, k ≤ its.length ∧ t = .int .i64 k ∧ ∀ i x, i < k → its[i]? = some x → x.1.size ≤ 1000 ∧ x.2.size ≤ 1000) (fun t => its.length - (intOf t).toNat)
  case atStart => exact ⟨0, Nat.zero_le _, rfl, fun i x h => absurd h (Nat.not_lt_zero _)⟩
  case round =>
    obtain ⟨k, hkl', rfl, hall⟩ := hrel
    have HA := hide hall
    clear hall
    by_cases hlt : k < its.length
    · obtain ⟨b, off, rfl, hr⟩ := (unhide hi).at hlt
      obtain ⟨⟨key, val⟩, hx⟩ := get_some hlt
      obtain ⟨c0, c1⟩ := hr k _ hx
      simp only at c0 c1
      have HX := hide hx
      clear hr hx
      by_cases k1 : 1000 < key.size
      · go_wp2
        go_ret
        exact ⟨true, rfl, fun h => by simp at h, below_alloc _ _⟩
      · by_cases k2 : 1000 < val.size
        · go_wp2
          go_ret
          exact ⟨true, rfl, fun h => by simp at h, below_alloc _ _⟩
        · go_wp2
          go_round
          case rel =>
            refine ⟨k + 1, by omega, by go_num, fun i x hi hx => ?_⟩
            by_cases hik : i = k
            · subst hik
              rw [unhide HX] at hx
              obtain rfl := Option.some.inj hx
              exact ⟨by show key.size ≤ _; omega, by show val.size ≤ _; omega⟩
            · exact unhide HA i x (by omega) hx
          case measure => simp [intOf]; omega
    · obtain rfl : k = its.length := by omega
      go_wp2
      go_loop [4] (fun t => ∃ k : Nat, k ≤ kds.length ∧ t = .int .i64 k ∧ ∀ i x, i < k → kds[i]? = some x → x.1.size ≤ 1000) (fun t => kds.length - (intOf t).toNat)
      case atStart => exact ⟨0, Nat.zero_le _, rfl, fun i x h => absurd h (Nat.not_lt_zero _)⟩
      case round =>
        obtain ⟨k, hkl', rfl, hall⟩ := hrel
        have HB := hide hall
        clear hall
        by_cases hlt' : k < kds.length
        · obtain ⟨b, off, rfl, hr⟩ := (unhide hk).at hlt'
          obtain ⟨⟨key, val⟩, hx⟩ := get_some hlt'
          obtain ⟨c0, c1⟩ := hr k _ hx
          simp only at c0 c1
          have HX := hide hx
          clear hr hx
          by_cases k1 : 1000 < key.size
          · go_wp2
            go_ret
            exact ⟨true, rfl, fun h => by simp at h, below_alloc _ _⟩
          · go_wp2
            go_round
            case rel =>
              refine ⟨k + 1, by omega, by go_num, fun i x hi hx => ?_⟩
              by_cases hik : i = k
              · subst hik
                rw [unhide HX] at hx
                obtain rfl := Option.some.inj hx
                show key.size ≤ _
                omega
              · exact unhide HB i x (by omega) hx
            case measure => simp [intOf]; omega
        · obtain rfl : k = kds.length := by omega
          go_wp2
          go_ret
          exact ⟨false, rfl, fun _ => ⟨by show its.length ≤ _; omega, by show kds.length ≤ _; omega, all_of (unhide HA), all_of (unhide HB)⟩, below_alloc _ _⟩
end Go.Proofs.Ytepkifledonldaa
