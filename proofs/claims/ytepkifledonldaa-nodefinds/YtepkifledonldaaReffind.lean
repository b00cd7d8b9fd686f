/- Where a key stands, as the document tells it. -/
import Derived.Test.YtepkifledonldaaApp
import Derived.Test.YtepkifledonldaaFind
import Derived.Deep.QuietTactic
import Derived.BigQuiet
import Derived.Laws.OwnMore
namespace Go.Proofs.Ytepkifledonldaa
open Go.ChangeShapes Go.WideShapes Go.ChangeAt Go.RowKit

/-- keys in a row of one's own -/
def OwnS (B : Nat) (w : World) (v : Value) (ks : List ByteArray) : Prop := w.ownsRow B 9 1 v ks.length (ks.map Value.string)
theorem OwnS.at {B : Nat} {w : World} {a : Option Addr} {cap n : Nat} {ks : List ByteArray} (h : OwnS B w (.slice a n cap) ks) {k : Nat} (hk : k < ks.length) : ∃ g, a = some ⟨g, 0, none⟩ ∧ ∀ i x, ks[i]? = some x → w.cell? ⟨g, i, none⟩ = some (.string x) := by
  have h' := h
  rcases h.2 with ⟨e, hn⟩ | ⟨g, cap', cur, e, _⟩
  · omega
  · injection e with e1 e2 e3
    subst e1 e2 e3
    refine ⟨g, rfl, fun i x hx => ?_⟩
    have hi : i < ks.length := (List.getElem?_eq_some_iff.1 hx).1
    rw [World.ownsRow.cellAt h' i (by omega), List.getElem?_map, hx]
    rfl
theorem OwnS.app {B : Nat} {w : World} {v : Value} {ks : List ByteArray} {k : Nat} {x : ByteArray} (hx : ks[k]? = some x) (h : w.ownsRow B 9 1 v (k + 1) ((ks.take k).map Value.string ++ [.string x])) : OwnS B w v (ks.take (k + 1)) := by
  have e : ks.take (k + 1) = ks.take k ++ [x] := by rw [List.take_add_one, hx]; rfl
  have hk : k < ks.length := (List.getElem?_eq_some_iff.1 hx).1
  have e2 : (ks.take k).length = k := by rw [List.length_take]; omega
  unfold OwnS
  rw [e, List.length_append, List.map_append, e2]
  exact h
theorem OwnS.row {B : Nat} {w : World} {v : Value} {ks : List ByteArray} {k : Nat} (hk : k ≤ ks.length) (h : OwnS B w v (ks.take k)) : w.ownsRow B 9 1 v k ((ks.take k).map Value.string) := by
  have e2 : (ks.take k).length = k := by rw [List.length_take]; omega
  unfold OwnS at h
  rw [e2] at h
  exact h

set_option maxRecDepth 10000 in
set_option maxHeartbeats 4000000 in
theorem refFindI (ai ak : Option Addr) (ci ck kl : Nat) (its : List It) (key : ByteArray) (w : World) (hr : Row Value.string w ai its) (hl : its.length ≤ 1000000) :
    Calls Try.prog 20 #[.agg #[.bool true, .slice ai its.length ci, .slice ak kl ck], .string key] w fun e w' => e = .returned (.tuple #[.int .i64 ((findK (its.map (fun x => x.1)) key).1 : Int), .bool (findK (its.map (fun x => x.1)) key).2]) ∧ Below w.heap.size w w' := by
  have hb0 := below_alloc w (.cells #[.bool true, .slice ai its.length ci, .slice ak kl ck] 25)
  have HR := hide hr
  have HBW := hide hb0
  have q1 : (w.alloc (.cells #[.bool true, .slice ai its.length ci, .slice ak kl ck] 25)).cell? ⟨w.heap.size, 1, none⟩ = some (.slice ai its.length ci) := by simp
  have q0 : (w.alloc (.cells #[.bool true, .slice ai its.length ci, .slice ak kl ck] 25)).cell? ⟨w.heap.size, 0, none⟩ = some (.bool true) := by simp
  have hsz : (w.alloc (.cells #[.bool true, .slice ai its.length ci, .slice ak kl ck] 25)).heap.size = w.heap.size + 1 := by simp
  clear hr hb0
  go_enter Try.func20, Try.ntmps20
  go_wp2_with fail
  obtain ⟨p, hp⟩ : ∃ y, y = w.heap.size := ⟨_, rfl⟩
  rw [← hp] at q0 q1 hsz ⊢
  generalize w.alloc (.cells #[.bool true, .slice ai its.length ci, .slice ak kl ck] 25) = w0 at *
  have HP := hide hp
  have HSZ := hide hsz
  have Q1 := hide q1
  clear hp hsz
  go_wp2
  go_loopw [6, 7] (fun v t wr => ∃ k : Nat, k ≤ its.length ∧ t = .int .i64 k ∧ OwnS (p + 1) wr v ((its.map (fun x => x.1)).take k) ∧ Below (p + 1) w0 wr) (fun _ t _ => its.length - (intOf t).toNat)
  case atStart => exact ⟨0, Nat.zero_le _, rfl, World.ownsRow_nil _ _ _ _, Below.refl _ _⟩
  case round =>
    obtain ⟨k, hk, rfl, hown, hbel⟩ := hrel
    have HO := hide hown
    have HBel := hide hbel
    have q1 := (hbel.cell (p := ⟨p, 1, none⟩) (Nat.lt_succ_self _)).trans (unhide Q1)
    clear hown hbel
    by_cases hlt : k < its.length
    · obtain ⟨b, off, rfl, hr⟩ := (unhide HR).at hlt
      obtain ⟨⟨x, val⟩, hx⟩ := get_some hlt
      have c0 : wr.cell? ⟨b, off + k * 2, none⟩ = some (.string x) := by
        have h0 := (hr k _ hx).1
        have hlt' : b < w.heap.size := World.block_lt_of_cell? w ⟨b, off + k * 2, none⟩ h0
        have hp := unhide HP
        exact ((unhide HBel).cell (p := ⟨b, off + k * 2, none⟩) (show b < p + 1 by omega)).trans (cell_keep h0 (unhide HBW))
      have HX := hide (map_get hx)
      have hsz2 : p + 1 ≤ wr.heap.size := by have := (unhide HBel).size; have := unhide HSZ; omega
      have HOR := hide (OwnS.row (by simp; omega) (unhide HO))
      clear hx hr HR
      go_wp2_with (at_builtin; refine app_gen (news := [.string x]) Try.underlying65 info9 rfl (by decide) rfl _ _ rfl rfl rfl (unhide HOR) hsz2 rfl ?_ ?_ ?_ ?_; (intro u hu; simp at hu; subst hu; rfl); omega; omega; intro a' cap' w' ho' hg' _; have HO' := hide (OwnS.app (unhide HX) ho'); have HB' := hide ((unhide HBel).grown hg' hsz2 (fun g hg => (World.ownsRow.lt (unhide HOR) g hg).1)); clear ho' hg')
      go_roundw
      case rel => exact ⟨k + 1, by omega, by go_num, unhide HO', unhide HB'⟩
      case measure => simp [intOf]; omega
    · obtain rfl : k = its.length := by omega
      have ek : (its.map (fun x => x.1)).take its.length = (its.map (fun x => x.1)) := List.take_of_length_le (by simp)
      have ho := unhide HO
      rw [ek] at ho
      have hB2 : Below w.heap.size w wr := by
        have hp := unhide HP
        exact (unhide HBW).trans ((unhide HBel).mono (by omega))
      have HB2 := hide hB2
      have hlen : (its.map (fun x => x.1)).length ≤ 1000000 := by simpa using hl
      clear HO ek HBel hB2
      obtain ⟨ks, hks⟩ : ∃ ks, ks = (its.map (fun x => x.1)) := ⟨_, rfl⟩
      rw [← hks] at ho hlen
      have HKS := hide hks
      clear hks
      obtain ⟨a, cap, rfl⟩ := ownsRow_form ho
      have HO := hide ho
      clear ho
      go_wp2
      go_loop [9] (fun t => ∃ k : Nat, k ≤ ks.length ∧ t = .int .i64 k ∧ Fupto ks key k) (fun t => ks.length - (intOf t).toNat)
      case atStart => exact ⟨0, Nat.zero_le _, rfl, Fupto.start _ _⟩
      case round =>
        obtain ⟨k, hk', rfl, hu⟩ := hrel
        have HU := hide hu
        clear hu
        by_cases hlt' : k < ks.length
        · obtain ⟨g, rfl, hc⟩ := (unhide HO).at hlt'
          obtain ⟨x, hx⟩ := get_some hlt'
          have c0 := hc k x hx
          have HX := hide hx
          have v4 : decide ((k : Int) < (ks.length : Int)) = true := decide_eq_true (by omega)
          clear hc hx
          by_cases hls : less x key = true
          · have HLS := hide hls
            have hls' : Op.bytesLess x.toList key.toList = true := hls
            clear hls
            go_wp2
            go_round
            case rel => exact ⟨k + 1, by omega, by go_num, (unhide HU).next (unhide HX) (unhide HLS)⟩
            case measure => simp [intOf]; omega
          · have hls : less x key = false := by simpa using hls
            have HE := hide ((unhide HU).stop (unhide HX) hls)
            have hls' : Op.bytesLess x.toList key.toList = false := hls
            clear hls
            go_wp2_with fail
            go_quiet (fail)
            go_wp2
            go_ret2
            exact ⟨ret_ib (by rw [← unhide HKS, unhide HE]) (by rw [← unhide HKS, unhide HE]), (unhide HB2).trans (below_drewN (Below.refl _ _) _)⟩
        · obtain rfl : k = ks.length := by omega
          have HE := hide (unhide HU).done
          have v4 : decide ((ks.length : Int) < (ks.length : Int)) = false := decide_eq_false (by omega)
          go_wp2_with fail
          go_quiet (fail)
          go_wp2
          go_ret2
          exact ⟨ret_ib (by rw [← unhide HKS, unhide HE]) (by rw [← unhide HKS, unhide HE]), (unhide HB2).trans (below_drewN (Below.refl _ _) _)⟩

set_option maxRecDepth 10000 in
set_option maxHeartbeats 4000000 in
theorem refFindK (ai ak : Option Addr) (ci ck il : Nat) (kds : List Kd) (key : ByteArray) (w : World) (hr : Row kv w ak kds) (hl : kds.length ≤ 1000000) :
    Calls Try.prog 20 #[.agg #[.bool false, .slice ai il ci, .slice ak kds.length ck], .string key] w fun e w' => e = .returned (.tuple #[.int .i64 ((findK (kds.map (fun x => x.1)) key).1 : Int), .bool (findK (kds.map (fun x => x.1)) key).2]) ∧ Below w.heap.size w w' := by
  have hb0 := below_alloc w (.cells #[.bool false, .slice ai il ci, .slice ak kds.length ck] 25)
  have HR := hide hr
  have HBW := hide hb0
  have q1 : (w.alloc (.cells #[.bool false, .slice ai il ci, .slice ak kds.length ck] 25)).cell? ⟨w.heap.size, 2, none⟩ = some (.slice ak kds.length ck) := by simp
  have q0 : (w.alloc (.cells #[.bool false, .slice ai il ci, .slice ak kds.length ck] 25)).cell? ⟨w.heap.size, 0, none⟩ = some (.bool false) := by simp
  have hsz : (w.alloc (.cells #[.bool false, .slice ai il ci, .slice ak kds.length ck] 25)).heap.size = w.heap.size + 1 := by simp
  clear hr hb0
  go_enter Try.func20, Try.ntmps20
  go_wp2_with fail
  obtain ⟨p, hp⟩ : ∃ y, y = w.heap.size := ⟨_, rfl⟩
  rw [← hp] at q0 q1 hsz ⊢
  generalize w.alloc (.cells #[.bool false, .slice ai il ci, .slice ak kds.length ck] 25) = w0 at *
  have HP := hide hp
  have HSZ := hide hsz
  have Q1 := hide q1
  clear hp hsz
  go_wp2
  go_loopw [6, 8] (fun v t wr => ∃ k : Nat, k ≤ kds.length ∧ t = .int .i64 k ∧ OwnS (p + 1) wr v ((kds.map (fun x => x.1)).take k) ∧ Below (p + 1) w0 wr) (fun _ t _ => kds.length - (intOf t).toNat)
  case atStart => exact ⟨0, Nat.zero_le _, rfl, World.ownsRow_nil _ _ _ _, Below.refl _ _⟩
  case round =>
    obtain ⟨k, hk, rfl, hown, hbel⟩ := hrel
    have HO := hide hown
    have HBel := hide hbel
    have q1 := (hbel.cell (p := ⟨p, 2, none⟩) (Nat.lt_succ_self _)).trans (unhide Q1)
    clear hown hbel
    by_cases hlt : k < kds.length
    · obtain ⟨b, off, rfl, hr⟩ := (unhide HR).at hlt
      obtain ⟨⟨x, val⟩, hx⟩ := get_some hlt
      have c0 : wr.cell? ⟨b, off + k * 2, none⟩ = some (.string x) := by
        have h0 := (hr k _ hx).1
        have hlt' : b < w.heap.size := World.block_lt_of_cell? w ⟨b, off + k * 2, none⟩ h0
        have hp := unhide HP
        exact ((unhide HBel).cell (p := ⟨b, off + k * 2, none⟩) (show b < p + 1 by omega)).trans (cell_keep h0 (unhide HBW))
      have HX := hide (map_get hx)
      have hsz2 : p + 1 ≤ wr.heap.size := by have := (unhide HBel).size; have := unhide HSZ; omega
      have HOR := hide (OwnS.row (by simp; omega) (unhide HO))
      clear hx hr HR
      go_wp2_with (at_builtin; refine app_gen (news := [.string x]) Try.underlying65 info9 rfl (by decide) rfl _ _ rfl rfl rfl (unhide HOR) hsz2 rfl ?_ ?_ ?_ ?_; (intro u hu; simp at hu; subst hu; rfl); omega; omega; intro a' cap' w' ho' hg' _; have HO' := hide (OwnS.app (unhide HX) ho'); have HB' := hide ((unhide HBel).grown hg' hsz2 (fun g hg => (World.ownsRow.lt (unhide HOR) g hg).1)); clear ho' hg')
      go_roundw
      case rel => exact ⟨k + 1, by omega, by go_num, unhide HO', unhide HB'⟩
      case measure => simp [intOf]; omega
    · obtain rfl : k = kds.length := by omega
      have ek : (kds.map (fun x => x.1)).take kds.length = (kds.map (fun x => x.1)) := List.take_of_length_le (by simp)
      have ho := unhide HO
      rw [ek] at ho
      have hB2 : Below w.heap.size w wr := by
        have hp := unhide HP
        exact (unhide HBW).trans ((unhide HBel).mono (by omega))
      have HB2 := hide hB2
      have hlen : (kds.map (fun x => x.1)).length ≤ 1000000 := by simpa using hl
      clear HO ek HBel hB2
      obtain ⟨ks, hks⟩ : ∃ ks, ks = (kds.map (fun x => x.1)) := ⟨_, rfl⟩
      rw [← hks] at ho hlen
      have HKS := hide hks
      clear hks
      obtain ⟨a, cap, rfl⟩ := ownsRow_form ho
      have HO := hide ho
      clear ho
      go_wp2
      go_loop [9] (fun t => ∃ k : Nat, k ≤ ks.length ∧ t = .int .i64 k ∧ Fupto ks key k) (fun t => ks.length - (intOf t).toNat)
      case atStart => exact ⟨0, Nat.zero_le _, rfl, Fupto.start _ _⟩
      case round =>
        obtain ⟨k, hk', rfl, hu⟩ := hrel
        have HU := hide hu
        clear hu
        by_cases hlt' : k < ks.length
        · obtain ⟨g, rfl, hc⟩ := (unhide HO).at hlt'
          obtain ⟨x, hx⟩ := get_some hlt'
          have c0 := hc k x hx
          have HX := hide hx
          have v4 : decide ((k : Int) < (ks.length : Int)) = true := decide_eq_true (by omega)
          clear hc hx
          by_cases hls : less x key = true
          · have HLS := hide hls
            have hls' : Op.bytesLess x.toList key.toList = true := hls
            clear hls
            go_wp2
            go_round
            case rel => exact ⟨k + 1, by omega, by go_num, (unhide HU).next (unhide HX) (unhide HLS)⟩
            case measure => simp [intOf]; omega
          · have hls : less x key = false := by simpa using hls
            have HE := hide ((unhide HU).stop (unhide HX) hls)
            have hls' : Op.bytesLess x.toList key.toList = false := hls
            clear hls
            go_wp2_with fail
            go_quiet (fail)
            go_wp2
            go_ret2
            exact ⟨ret_ib (by rw [← unhide HKS, unhide HE]) (by rw [← unhide HKS, unhide HE]), (unhide HB2).trans (below_drewN (Below.refl _ _) _)⟩
        · obtain rfl : k = ks.length := by omega
          have HE := hide (unhide HU).done
          have v4 : decide ((ks.length : Int) < (ks.length : Int)) = false := decide_eq_false (by omega)
          go_wp2_with fail
          go_quiet (fail)
          go_wp2
          go_ret2
          exact ⟨ret_ib (by rw [← unhide HKS, unhide HE]) (by rw [← unhide HKS, unhide HE]), (unhide HB2).trans (below_drewN (Below.refl _ _) _)⟩

theorem refFind_any (n : Nd) (ai ak : Option Addr) (ci ck : Nat) (key : ByteArray) (w : World) (hn : Has w n ai ak) (hil : n.its.length ≤ 1000000) (hkl : n.kds.length ≤ 1000000) :
    Calls Try.prog 20 #[.agg #[.bool n.leaf, .slice ai n.its.length ci, .slice ak n.kds.length ck], .string key] w fun e w' => e = .returned (.tuple #[.int .i64 ((findK (keysN n) key).1 : Int), .bool (findK (keysN n) key).2]) ∧ Below w.heap.size w w' := by
  obtain ⟨L, its, kds⟩ := n
  cases L with
  | true => exact refFindI ai ak ci ck _ its key w hn.1 hil
  | false => exact refFindK ai ak ci ck _ kds key w hn.2 hkl
end Go.Proofs.Ytepkifledonldaa
