/- All entries are handed to the writer. -/
import Derived.Test.YtepkifledonldaaPuts
namespace Go.Proofs.Ytepkifledonldaa
open Go.ChangeShapes Go.WideShapes Go.ChangeAt Go.RowKit

theorem take_flat {α : Type} (f : α → List Nat) {l : List α} {k : Nat} {x : α} (h : l[k]? = some x) : (l.take (k + 1)).flatMap f = (l.take k).flatMap f ++ f x := by
  rw [List.take_add_one, h, List.flatMap_append]
  simp
theorem take_flat_le {α : Type} (f : α → List Nat) (l : List α) (k : Nat) : ((l.take k).flatMap f).length ≤ (l.flatMap f).length := by
  conv => rhs; rw [← List.take_append_drop k l, List.flatMap_append, List.length_append]
  omega
/-- entries don't lie in the writer's block -/
theorem row_not_writer {w : World} {b o c : Nat} {v : Value} {s : ByteArray} (h : w.heap[b]? = some (.cells #[.int .i64 (c : Int), v] 71 (0, 0))) (hv : ∃ a n cap, v = .slice a n cap) (h0 : w.cell? ⟨b, o, none⟩ = some (.string s)) : False := by
  obtain ⟨a, n, cap, rfl⟩ := hv
  rcases o with _ | _ | o
  · rw [two_cell0 h] at h0; simp at h0
  · rw [two_cell1 h] at h0; simp at h0
  · simp [World.cell?, h] at h0

set_option maxRecDepth 10000 in
set_option maxHeartbeats 2000000 in
theorem eachI_any (B r : Nat) (a : Option Addr) (cap : Nat) (es : List It) (w : World) (h : Wr B w r 0 []) (hrow : Row Value.string w a es) (hlow : ∀ k, k < w.heap.size → k ≠ r → k < B) (hn : es.length ≤ 900000) (hl : (es.flatMap itL).length ≤ 900000) :
    Calls Try.prog 43 #[.slice a es.length cap, .func (.func 38) #[.pointer (some ⟨r, 0, none⟩)] #[]] w fun e w' => e = .returned (.tuple #[]) ∧ Wr B w' r es.length (es.flatMap itL) ∧ Below B w w' := by
  have HR := hide hrow
  have HW0 := hide h
  have HLOW := hide hlow
  clear hrow h hlow
  go_enter Try.func43, Try.ntmps43
  go_wp2
  go_loopw [8] (fun t wr => ∃ k : Nat, k ≤ es.length ∧ t = .int .i64 k ∧ Wr B wr r k ((es.take k).flatMap itL) ∧ Below B w wr) (fun t _ => es.length - (intOf t).toNat)
  case atStart => exact ⟨0, Nat.zero_le _, rfl, unhide HW0, Below.refl _ _⟩
  case round =>
    obtain ⟨k, hk, rfl, hw, hbel⟩ := hrel
    have HW := hide hw
    have HBel := hide hbel
    clear hw hbel
    by_cases hlt : k < es.length
    · obtain ⟨b, off, rfl, hr⟩ := (unhide HR).at hlt
      obtain ⟨⟨key, val⟩, hx⟩ := get_some hlt
      have hbB : b < B := by
        have h1 := (hr k _ hx).1
        refine unhide HLOW b (World.block_lt_of_cell? _ _ h1) (fun e => ?_)
        subst e
        obtain ⟨_, v, hb, ho⟩ := unhide HW0
        obtain ⟨a, cap, e⟩ := ho.shape
        exact row_not_writer hb ⟨_, _, _, e⟩ (hr k _ hx).1
      have c0 := ((unhide HBel).cell (p := ⟨b, off + k * 2, none⟩) hbB).trans (hr k _ hx).1
      have c1 := ((unhide HBel).cell (p := ⟨b, off + k * 2 + 1, none⟩) hbB).trans (hr k _ hx).2
      simp only at c0 c1
      have HX := hide hx
      have HST : Hid ((es.take (k + 1)).flatMap itL = (es.take k).flatMap itL ++ itL (key, val)) := take_flat itL hx
      have hle := take_flat_le itL es (k + 1)
      rw [unhide HST, List.length_append] at hle
      clear hx hr HR
      have HC := hide (fun W hW => item_any B r k ((es.take k).flatMap itL) (key, val) W hW (by omega) (by omega))
      have HWA := hide ((unhide HW).below (below_alloc wr (.cells #[.string key, .string val] 47)))
      have HPA := hide ((unhide HBel).alloc (by have := (unhide HW).lt; have := (unhide HW).1; omega) (.cells #[.string key, .string val] 47))
      clear hle
      go_wp2_with (go_at_call 38; refine (unhide HC _ (unhide HWA)).mono ?_; rintro e w3 ⟨rfl, hw3, hp3⟩; have HW3 := hide hw3; have HP3 := hide ((unhide HPA).trans hp3.1); clear hw3 hp3)
      go_roundw
      case rel =>
        refine ⟨k + 1, by omega, by go_num, ?_, unhide HP3⟩
        rw [unhide HST]
        exact unhide HW3
      case measure => simp [intOf]; omega
    · obtain rfl : k = es.length := by omega
      go_wp2
      go_end0
      have := unhide HW
      rw [List.take_length] at this
      exact ⟨rfl, this, unhide HBel⟩

set_option maxRecDepth 10000 in
set_option maxHeartbeats 2000000 in
theorem eachK_any (B r : Nat) (a : Option Addr) (cap : Nat) (es : List Kd) (w : World) (h : Wr B w r 0 []) (hrow : Row kv w a es) (hlow : ∀ k, k < w.heap.size → k ≠ r → k < B) (hv : ∀ x ∈ es, 0 ≤ x.2 ∧ x.2 < 9223372036854775808) (hn : es.length ≤ 900000) (hl : (es.flatMap kdL).length ≤ 900000) :
    Calls Try.prog 45 #[.slice a es.length cap, .func (.func 41) #[.pointer (some ⟨r, 0, none⟩)] #[]] w fun e w' => e = .returned (.tuple #[]) ∧ Wr B w' r es.length (es.flatMap kdL) ∧ Below B w w' := by
  have HR := hide hrow
  have HW0 := hide h
  have HLOW := hide hlow
  clear hrow h hlow
  go_enter Try.func45, Try.ntmps45
  go_wp2
  go_loopw [8] (fun t wr => ∃ k : Nat, k ≤ es.length ∧ t = .int .i64 k ∧ Wr B wr r k ((es.take k).flatMap kdL) ∧ Below B w wr) (fun t _ => es.length - (intOf t).toNat)
  case atStart => exact ⟨0, Nat.zero_le _, rfl, unhide HW0, Below.refl _ _⟩
  case round =>
    obtain ⟨k, hk, rfl, hw, hbel⟩ := hrel
    have HW := hide hw
    have HBel := hide hbel
    clear hw hbel
    by_cases hlt : k < es.length
    · obtain ⟨b, off, rfl, hr⟩ := (unhide HR).at hlt
      obtain ⟨⟨key, val⟩, hx⟩ := get_some hlt
      have hbB : b < B := by
        have h1 := (hr k _ hx).1
        refine unhide HLOW b (World.block_lt_of_cell? _ _ h1) (fun e => ?_)
        subst e
        obtain ⟨_, v, hb, ho⟩ := unhide HW0
        obtain ⟨a, cap, e⟩ := ho.shape
        exact row_not_writer hb ⟨_, _, _, e⟩ (hr k _ hx).1
      have c0 := ((unhide HBel).cell (p := ⟨b, off + k * 2, none⟩) hbB).trans (hr k _ hx).1
      have c1 := ((unhide HBel).cell (p := ⟨b, off + k * 2 + 1, none⟩) hbB).trans (hr k _ hx).2
      simp only at c0 c1
      have HX := hide hx
      have HST : Hid ((es.take (k + 1)).flatMap kdL = (es.take k).flatMap kdL ++ kdL (key, val)) := take_flat kdL hx
      have hle := take_flat_le kdL es (k + 1)
      rw [unhide HST, List.length_append] at hle
      clear hx hr HR
      have HC := hide (fun W hW => kid_any B r k ((es.take k).flatMap kdL) (key, val) W hW (hv _ (List.mem_of_getElem? (unhide HX))) (by omega) (by omega))
      have HWA := hide ((unhide HW).below (below_alloc wr (.cells #[.string key, .int .i64 val] 49)))
      have HPA := hide ((unhide HBel).alloc (by have := (unhide HW).lt; have := (unhide HW).1; omega) (.cells #[.string key, .int .i64 val] 49))
      clear hle
      go_wp2_with (go_at_call 41; refine (unhide HC _ (unhide HWA)).mono ?_; rintro e w3 ⟨rfl, hw3, hp3⟩; have HW3 := hide hw3; have HP3 := hide ((unhide HPA).trans hp3.1); clear hw3 hp3)
      go_roundw
      case rel =>
        refine ⟨k + 1, by omega, by go_num, ?_, unhide HP3⟩
        rw [unhide HST]
        exact unhide HW3
      case measure => simp [intOf]; omega
    · obtain rfl : k = es.length := by omega
      go_wp2
      go_end0
      have := unhide HW
      rw [List.take_length] at this
      exact ⟨rfl, this, unhide HBel⟩
end Go.Proofs.Ytepkifledonldaa
