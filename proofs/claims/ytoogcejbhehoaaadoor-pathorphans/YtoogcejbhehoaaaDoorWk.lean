/- What the document's walk, Split and Loose do: the names of a path. -/
import Derived.Test.YtoogcejbhehoaaaDoorCt
namespace Go.Proofs.YtoogcejbhehoaaaDoor
open Go.ChangeShapes Go.WideShapes Go.ChangeAt Go.RowKit

def erO {α : Type} (r : Option α) : Int := if r.isSome = true then 0 else 120
/-- names, and the error -/
def Names (w w' : World) (e : Ending) (r : Option (List (List UInt8))) : Prop :=
  (∃ a cap, e = .returned (.tuple #[.slice a (r.getD []).length cap, .int .i64 (erO r)]) ∧ Ls w' a (r.getD [])) ∧ Below w.heap.size w w'
theorem Names.no {w w' : World} (h : Below w.heap.size w w') : Names w w' (.returned (.tuple #[.slice none 0 0, .int .i64 120])) none := ⟨⟨none, 0, rfl, Ls.nil _ _⟩, h⟩
theorem Names.root {w w' : World} (h : Below w.heap.size w w') : Names w w' (.returned (.tuple #[.slice none 0 0, .int .i64 0])) (some []) := ⟨⟨none, 0, rfl, Ls.nil _ _⟩, h⟩
theorem Names.yes {w w' : World} {a : Option Addr} {cap : Nat} {l : List (List UInt8)} (h : Below w.heap.size w w') (hl : Ls w' a l) : Names w w' (.returned (.tuple #[.slice a l.length cap, .int .i64 0])) (some l) := ⟨⟨a, cap, rfl, hl⟩, h⟩

def mostB (loose : Bool) : Nat := if loose = true then 1036 else 1022
theorem walk_cons (loose : Bool) (c : UInt8) (r : List UInt8) : walkR loose (c :: r) = if c = 47 ∧ r.length ≤ mostB loose then (if r = [] then some [] else partsR (fitB loose) r) else none := rfl
theorem walk_root (loose : Bool) : walkR loose [47] = some [] := by cases loose <;> rfl
theorem walk_first {loose : Bool} {c : UInt8} {r : List UInt8} (h : c ≠ 47) : walkR loose (c :: r) = none := by rw [walk_cons, if_neg (fun hh => h hh.1)]
theorem walk_far {loose : Bool} {c : UInt8} {r : List UInt8} (h : ¬ r.length ≤ mostB loose) : walkR loose (c :: r) = none := by rw [walk_cons, if_neg (fun hh => h hh.2)]
theorem walk_in {loose : Bool} {r : List UInt8} (h : r.length ≤ mostB loose) (hr : r ≠ []) : walkR loose (47 :: r) = partsR (fitB loose) r := by rw [walk_cons, if_pos ⟨rfl, h⟩, if_neg hr]
theorem parts_no {fits : Nat → List UInt8 → Bool} {l : List UInt8} {i : Nat} (hi : i < (cutW [] l).length) (h : fits i ((cutW [] l).getD i []) = false) : partsR fits l = none := by
  unfold partsR
  rw [if_neg]
  rw [okP_iff]
  rintro ⟨_, h2⟩
  have := h2 i hi
  rw [Nat.zero_add, h] at this
  cases this
theorem parts_long {fits : Nat → List UInt8 → Bool} {l : List UInt8} (h : 32 < (cutW [] l).length) : partsR fits l = none := by
  unfold partsR
  rw [if_neg]
  rw [okP_iff]
  rintro ⟨h1, _⟩
  rcases h1 with h1 | h1
  · rw [h1] at h; simp at h
  · omega
theorem parts_yes {fits : Nat → List UInt8 → Bool} {l : List UInt8} (h : (cutW [] l).length ≤ 32) (hf : ∀ i, i < (cutW [] l).length → fits i ((cutW [] l).getD i []) = true) : partsR fits l = some (cutW [] l) := by
  unfold partsR
  rw [if_pos]
  rw [okP_iff]
  exact ⟨.inr (by omega), fun i hi => by rw [Nat.zero_add]; exact hf i hi⟩

theorem ext_rest (s : ByteArray) (c : UInt8) (r : List UInt8) (h : bs s = c :: r) : s.extract 1 s.size = tx r := by
  apply bs_inj
  rw [bs_tx]
  unfold bs
  rw [ByteArray.data_extract, Array.toList_extract]
  change (bs s).extract 1 s.size = r
  rw [← bs_len, h]
  simp [List.extract_eq_take_drop]

set_option maxHeartbeats 8000000 in
set_option maxRecDepth 10000 in
theorem walk_any (p : ByteArray) (loose : Bool) (w : World) (hs : p.size ≤ 900000) :
    Calls Tryd.prog 28 #[.string p, .bool loose] w fun e w' => Names w w' e (walkR loose (bs p)) := by
  by_cases h1 : p = ⟨#[47]⟩
  · subst h1
    rw [show bs ⟨#[47]⟩ = [47] from rfl, walk_root]
    go_enter Tryd.func28, Tryd.ntmps28
    go_wp2
    go_ret2
    exact Names.root (Below.refl _ _)
  by_cases h0 : p = ⟨#[]⟩
  · subst h0
    rw [show bs ⟨#[]⟩ = [] from rfl, show walkR loose [] = none from rfl]
    cases loose
    all_goals
      go_enter Tryd.func28, Tryd.ntmps28
      go_wp2
      go_ret2
      exact Names.no (Below.refl _ _)
  have k1 := ne_lit (l := [47]) h1
  have k0 := full_of (s := p) (fun e => h0 (bs_inj (e.trans (bs_tx []).symm)))
  have hz : 0 < p.size := by
    rcases Nat.eq_zero_or_pos p.size with h | h
    · exact absurd (bs_inj ((List.length_eq_zero_iff.1 (by rw [bs_len]; exact h)).trans (bs_tx []).symm)) h0
    · exact h
  obtain ⟨r, hr⟩ : ∃ r, bs p = p[0] :: r := by
    have := drop_at p 0 hz
    rw [List.drop_zero] at this
    exact ⟨_, this⟩
  have hl := bs_len p
  rw [hr, List.length_cons] at hl
  by_cases c1 : p[0].toNat = 47
  case neg =>
    have hw : walkR loose (bs p) = none := by rw [hr]; exact walk_first (fun h => c1 (by rw [h]; rfl))
    rw [hw]
    have g : ((p[0].toNat : Int) == 47) = false := beq_eq_false_iff_ne.2 (by omega)
    have g' : ¬ (p[0].toNat : Int) = 47 := by omega
    clear hw hr hl h1 h0
    cases loose
    all_goals
      go_enter Tryd.func28, Tryd.ntmps28
      go_wp2
      go_ret2
      exact Names.no (Below.refl _ _)
  have hp0 : p[0] = 47 := UInt8.toNat_inj.1 c1
  have hrest := ext_rest p _ r hr
  have hne : r ≠ [] := by
    intro h
    exact h1 (bs_inj (by rw [hr, hp0, h]; rfl))
  rw [hr, hp0]
  clear hr hp0 h1 h0
  by_cases c2 : r.length ≤ mostB loose
  case neg =>
    rw [walk_far c2]
    unfold mostB at c2
    clear hrest hne
    cases loose
    · have c3 : (1023 : Int) < (p.size : Int) := by simp at c2; omega
      go_enter Tryd.func28, Tryd.ntmps28
      go_wp2
      go_ret2
      exact Names.no (Below.refl _ _)
    · have c3 : (1037 : Int) < (p.size : Int) := by simp at c2; omega
      go_enter Tryd.func28, Tryd.ntmps28
      go_wp2
      go_ret2
      exact Names.no (Below.refl _ _)
  rw [walk_in c2 hne]
  have HC := hide (cut_any (tx r) w (by rw [tx_size]; omega))
  rw [bs_tx] at HC
  have hlen := cutW_len r []
  have hsz := cutW_size r []
  generalize hL : cutW [] r = L at HC hlen hsz
  have HL := hide hL
  have HZ := hide hsz
  have hlen' : L.length ≤ 900001 := by omega
  have h1p : (1 : Int) ≤ (p.size : Int) := by omega
  clear hL hlen hne hsz
  cases loose
  · have c3 : ¬ (1023 : Int) < (p.size : Int) := by simp [mostB] at c2; omega
    clear c2
    go_enter Tryd.func28, Tryd.ntmps28
    go_wp2_with (go_at_call 33; refine (unhide HC).mono ?_; rintro e w1 ⟨a, cap, rfl, hown, hb⟩; have HB := hide hb; have hls := hide (hown.ls (by omega)); clear hown hb)
    · have h32 : 32 < L.length := by omega
      have HW := hide (show partsR (fitB false) r = none by rw [← unhide HL] at h32; exact parts_long h32)
      go_wp2
      go_ret2
      rw [unhide HW]
      exact Names.no (unhide HB)
    · have h32 : L.length ≤ 32 := by omega
      go_loop [8] (fun j => ∃ i : Nat, i ≤ L.length ∧ j = .int .i64 i ∧ ∀ k, k < i → fitB false k (L.getD k []) = true) (fun j => L.length - (intOf j).toNat)
      case atStart => exact ⟨0, Nat.zero_le _, rfl, fun k hk => by omega⟩
      case round =>
        obtain ⟨i, hi, rfl, hall⟩ := hrel
        have HA := hide hall
        clear hall
        by_cases hlt : i < L.length
        · have hlt' : (i : Int) < (L.length : Int) := by omega
          obtain ⟨_, hls0 | ⟨b, off, rfl, _, hc⟩⟩ := unhide hls
          · omega
          have hci := hc i hlt
          have hxs : (tx (L.getD i [])).size ≤ 1000000 := by
            rw [tx_size]
            have := unhide HZ (L.getD i []) (by rw [List.getD_eq_getElem?_getD, List.getElem?_eq_getElem hlt]; exact List.getElem_mem _)
            rw [List.length_nil] at this
            omega
          have H1 := hide (refOrphanOf_any (tx (L.getD i [])) w1 hxs)
          have H2 := hide (refName_any (tx (L.getD i [])) w1 hxs)
          have HX := hide (fun h : fitB false i (L.getD i []) = false => show partsR (fitB false) r = none by
            rw [← unhide HL] at h hlt
            exact parts_no hlt h)
          have HY := hide (fun h : fitB false i (L.getD i []) = true => show ∀ k, k < i + 1 → fitB false k (L.getD k []) = true by
            intro k hk
            by_cases hki : k < i
            · exact unhide HA k hki
            · obtain rfl : k = i := by omega
              exact h)
          rw [bs_tx] at H1 H2
          rw [fit_false] at HX HY
          unfold ofA at H1
          clear hc hxs
          generalize tx (L.getD i []) = X at *
          generalize (orphR (L.getD i [])).isSome = o at *
          generalize (orphR (L.getD i [])).getD 0 = m at *
          cases hb : nameB (L.getD i []) with
          | true =>
            rw [hb] at H2
            have HY := hide (unhide HY hb)
            clear hb HX
            go_wp2_with (first
              | (go_at_call 25; refine (unhide H1).mono ?_; rintro e w2 ⟨rfl, rfl⟩)
              | (go_at_call 16; refine (unhide H2).mono ?_; rintro e w2 ⟨rfl, rfl⟩))
            go_round
            case rel => exact ⟨i + 1, by omega, by go_num, unhide HY⟩
            case measure => simp [intOf]; omega
          | false =>
            rw [hb] at H2
            have HX := hide (unhide HX hb)
            clear hb HY
            go_wp2_with (first
              | (go_at_call 25; refine (unhide H1).mono ?_; rintro e w2 ⟨rfl, rfl⟩)
              | (go_at_call 16; refine (unhide H2).mono ?_; rintro e w2 ⟨rfl, rfl⟩))
            go_ret2
            rw [unhide HX]
            exact Names.no (unhide HB)
        · have hlt' : ¬ (i : Int) < (L.length : Int) := by omega
          have HW := hide (show partsR (fitB false) r = some L by
            have hi' : i = L.length := by omega
            have hA := unhide HA
            have e := unhide HL
            subst e
            exact parts_yes h32 (fun k hk => hA k (by omega)))
          go_wp2
          go_ret2
          rw [unhide HW]
          exact Names.yes (unhide HB) (unhide hls)
  · have c3 : ¬ (1037 : Int) < (p.size : Int) := by simp [mostB] at c2; omega
    clear c2
    go_enter Tryd.func28, Tryd.ntmps28
    go_wp2_with (go_at_call 33; refine (unhide HC).mono ?_; rintro e w1 ⟨a, cap, rfl, hown, hb⟩; have HB := hide hb; have hls := hide (hown.ls (by omega)); clear hown hb)
    · have h32 : 32 < L.length := by omega
      have HW := hide (show partsR (fitB true) r = none by rw [← unhide HL] at h32; exact parts_long h32)
      go_wp2
      go_ret2
      rw [unhide HW]
      exact Names.no (unhide HB)
    · have h32 : L.length ≤ 32 := by omega
      go_loop [8] (fun j => ∃ i : Nat, i ≤ L.length ∧ j = .int .i64 i ∧ ∀ k, k < i → fitB true k (L.getD k []) = true) (fun j => L.length - (intOf j).toNat)
      case atStart => exact ⟨0, Nat.zero_le _, rfl, fun k hk => by omega⟩
      case round =>
        obtain ⟨i, hi, rfl, hall⟩ := hrel
        have HA := hide hall
        clear hall
        by_cases hlt : i < L.length
        · have hlt' : (i : Int) < (L.length : Int) := by omega
          obtain ⟨_, hls0 | ⟨b, off, rfl, _, hc⟩⟩ := unhide hls
          · omega
          have hci := hc i hlt
          have hxs : (tx (L.getD i [])).size ≤ 1000000 := by
            rw [tx_size]
            have := unhide HZ (L.getD i []) (by rw [List.getD_eq_getElem?_getD, List.getElem?_eq_getElem hlt]; exact List.getElem_mem _)
            rw [List.length_nil] at this
            omega
          have H1 := hide (refOrphanOf_any (tx (L.getD i [])) w1 hxs)
          have H2 := hide (refName_any (tx (L.getD i [])) w1 hxs)
          have HX := hide (fun h : fitB true i (L.getD i []) = false => show partsR (fitB true) r = none by
            rw [← unhide HL] at h hlt
            exact parts_no hlt h)
          have HY := hide (fun h : fitB true i (L.getD i []) = true => show ∀ k, k < i + 1 → fitB true k (L.getD k []) = true by
            intro k hk
            by_cases hki : k < i
            · exact unhide HA k hki
            · obtain rfl : k = i := by omega
              exact h)
          have hfit : fitB true i (L.getD i []) = (nameB (L.getD i []) || (decide (i = 0) && (orphR (L.getD i [])).isSome)) := by simp [fitB]
          rw [bs_tx] at H1 H2
          rw [hfit] at HX HY
          unfold ofA at H1
          clear hc hxs hfit
          generalize tx (L.getD i []) = X at *
          generalize (orphR (L.getD i [])).isSome = o at *
          generalize (orphR (L.getD i [])).getD 0 = m at *
          generalize nameB (L.getD i []) = b at *
          cases b with
          | true =>
            have HY := hide (unhide HY rfl)
            clear HX
            go_wp2_with (first
              | (go_at_call 25; refine (unhide H1).mono ?_; rintro e w2 ⟨rfl, rfl⟩)
              | (go_at_call 16; refine (unhide H2).mono ?_; rintro e w2 ⟨rfl, rfl⟩))
            go_round
            case rel => exact ⟨i + 1, by omega, by go_num, unhide HY⟩
            case measure => simp [intOf]; omega
          | false =>
            by_cases hi0 : i = 0
            · cases o with
              | true =>
                have HY2 := hide (unhide HY (by simp [hi0]))
                subst hi0
                rw [Nat.add_zero] at hci
                clear HX
                go_wp2_with (first
                  | (go_at_call 25; refine (unhide H1).mono ?_; rintro e w2 ⟨rfl, rfl⟩)
                  | (go_at_call 16; refine (unhide H2).mono ?_; rintro e w2 ⟨rfl, rfl⟩))
                go_round
                case rel => exact ⟨1, by omega, by go_num, unhide HY2⟩
                case measure => simp [intOf]; omega
              | false =>
                have HX2 := hide (unhide HX (by simp))
                subst hi0
                rw [Nat.add_zero] at hci
                clear HY
                go_wp2_with (first
                  | (go_at_call 25; refine (unhide H1).mono ?_; rintro e w2 ⟨rfl, rfl⟩)
                  | (go_at_call 16; refine (unhide H2).mono ?_; rintro e w2 ⟨rfl, rfl⟩))
                go_ret2
                rw [unhide HX2]
                exact Names.no (unhide HB)
            · have HX := hide (unhide HX (by simp [hi0]))
              have g : ((i : Int) == 0) = false := beq_eq_false_iff_ne.2 (by omega)
              clear HY hi0
              go_wp2_with (first
                | (go_at_call 25; refine (unhide H1).mono ?_; rintro e w2 ⟨rfl, rfl⟩)
                | (go_at_call 16; refine (unhide H2).mono ?_; rintro e w2 ⟨rfl, rfl⟩))
              go_ret2
              rw [unhide HX]
              exact Names.no (unhide HB)
        · have hlt' : ¬ (i : Int) < (L.length : Int) := by omega
          have HW := hide (show partsR (fitB true) r = some L by
            have hi' : i = L.length := by omega
            have hA := unhide HA
            have e := unhide HL
            subst e
            exact parts_yes h32 (fun k hk => hA k (by omega)))
          go_wp2
          go_ret2
          rw [unhide HW]
          exact Names.yes (unhide HB) (unhide hls)
end Go.Proofs.YtoogcejbhehoaaaDoor
