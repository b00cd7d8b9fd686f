/- What the document's own reader answers, call by call: the same functions. -/
import Derived.Test.YtdkgifjmahkiaaaDoorL4Reader
namespace Go.Proofs.YtdkgifjmahkiaaaDoor.L4
open Go.ChangeShapes Go.WideShapes Go.ChangeAt Go.RowKit

/-- the document's reader in memory -/
def Rm (w : World) (r : Nat) (L : ByteArray) (e : Nat) : Prop := w.heap[r]? = some (.cells #[.string L, .int .i64 (e : Int)] 61 (0, 0))
theorem Rm.cell0 {w : World} {r e : Nat} {L : ByteArray} (h : Rm w r L e) : w.cell? ⟨r, 0, none⟩ = some (.string L) := by
  unfold Rm at h
  simp [World.cell?, h]
theorem Rm.cell1 {w : World} {r e : Nat} {L : ByteArray} (h : Rm w r L e) : w.cell? ⟨r, 1, none⟩ = some (.int .i64 (e : Int)) := by
  unfold Rm at h
  simp [World.cell?, h]
theorem Rm.free {w : World} {r e : Nat} {L : ByteArray} (h : Rm w r L e) (i : Nat) : w.frozen? ⟨r, i, none⟩ = false := by
  unfold Rm at h
  simp [World.frozen?, h]
theorem Rm.lt {w : World} {r e : Nat} {L : ByteArray} (h : Rm w r L e) : r < w.heap.size := (Array.getElem?_eq_some_iff.1 h).1
theorem Rm.setErr {w : World} {r e : Nat} {L : ByteArray} (h : Rm w r L e) (e' : Nat) : Rm (w.setCell ⟨r, 1, none⟩ (.int .i64 (e' : Int))) r L e' := by
  unfold Rm at *
  simp [World.setCell, Array.getElem?_modify, h]
theorem Rm.setLeft {w : World} {r e : Nat} {L : ByteArray} (h : Rm w r L e) (L' : ByteArray) : Rm (w.setCell ⟨r, 0, none⟩ (.string L')) r L' e := by
  unfold Rm at *
  simp [World.setCell, Array.getElem?_modify, h]
def ToldM (w w' : World) (r : Nat) (L : ByteArray) (e : Nat) : Prop := w.grownBy w' (some r) ∧ Rm w' r L e
theorem ToldM.refl {w : World} {r e : Nat} {L : ByteArray} (h : Rm w r L e) : ToldM w w r L e := ⟨grown_refl _ _, h⟩
theorem ToldM.err {w : World} {r e : Nat} {L : ByteArray} (h : Rm w r L e) (e' : Nat) : ToldM w (w.setCell ⟨r, 1, none⟩ (.int .i64 (e' : Int))) r L e' := ⟨grown_set _ _ _ _, h.setErr e'⟩
theorem ToldM.left {w : World} {r e : Nat} {L : ByteArray} (h : Rm w r L e) (L' : ByteArray) : ToldM w (w.setCell ⟨r, 0, none⟩ (.string L')) r L' e := ⟨grown_set _ _ _ _, h.setLeft L'⟩
theorem ToldM.both {w : World} {r e : Nat} {L : ByteArray} (h : Rm w r L e) (e' : Nat) (L' : ByteArray) : ToldM w ((w.setCell ⟨r, 1, none⟩ (.int .i64 (e' : Int))).setCell ⟨r, 0, none⟩ (.string L')) r L' e' :=
  ⟨grown_trans (grown_set _ _ _ _) (grown_set _ _ _ _), (h.setErr e').setLeft L'⟩

/- Fixed -/
set_option maxRecDepth 10000 in
set_option maxHeartbeats 1000000 in
theorem refFixedR_any (r e : Nat) (L : ByteArray) (w : World) (hr : Rm w r L e) (hL : L.size ≤ 1000000) :
    Calls Tryd.prog 27 #[.pointer (some ⟨r, 0, none⟩)] w fun x w' => x = .returned (.int .u64 ((fixedR L e).1 : Int)) ∧ ToldM w w' r (fixedR L e).2.1 (fixedR L e).2.2 := by
  have h0 := hr.cell0
  have h1 := hr.cell1
  have f0 := hr.free 0
  have f1 := hr.free 1
  have HR := hide hr
  clear hr
  unfold fixedR
  by_cases he : e ≠ 0
  · rw [if_pos he]
    have hne : ((e : Int) == 0) = false := beq_eq_false_iff_ne.2 (by omega)
    have hne2 : ((e : Int) != 0) = true := bne_iff_ne.2 (by omega)
    clear he
    go_enter Tryd.func27, Tryd.ntmps27
    go_wp2
    go_ret
    exact ⟨rfl, .refl (unhide HR)⟩
  · obtain rfl : e = 0 := by omega
    rw [if_neg he]
    clear he
    by_cases hz : L.size < 8
    · rw [if_pos hz]
      go_enter Tryd.func27, Tryd.ntmps27
      go_wp2
      go_ret
      exact ⟨rfl, .err (unhide HR) 20⟩
    · rw [if_neg hz]
      go_enter Tryd.func27, Tryd.ntmps27
      go_wp2
      go_loop [3, 4] (fun t j => ∃ i : Nat, i ≤ 8 ∧ j = .int .i64 i ∧ t = .int .u64 (Pk.fixN ((bn L).take i) : Nat)) (fun _ j => 8 - (intOf j).toNat)
      case atStart => exact ⟨0, by omega, rfl, rfl⟩
      case round =>
        obtain ⟨i, hi, rfl, rfl⟩ := hrel
        by_cases hlt : i < 8
        · have his : i < L.size := by omega
          have hb : (L[i].toNat : Int) < 256 := by have := L[i].toNat_lt; omega
          have hn := fix_bound L i (by omega)
          have HS : Hid (Pk.fixN ((bn L).take (i + 1)) = Pk.fixN ((bn L).take i) * 256 + L[i].toNat) := by
            show _ = _
            rw [take_snoc_bn L i his, Pk.fixN_snoc]
          generalize Pk.fixN ((bn L).take i) = n at *
          have HE := hide (or_byte n L[i].toNat hn (by omega))
          go_wp2
          go_round
          case rel => exact ⟨i + 1, by omega, by go_num, by rw [unhide HS]; exact int_eq (unhide HE)⟩
          case measure => simp [intOf]; omega
        · obtain rfl : i = 8 := by omega
          go_wp2
          go_ret
          exact ⟨rfl, .left (unhide HR) _⟩

theorem Rm.below {w w' : World} {r e : Nat} {L : ByteArray} (h : Rm w r L e) (hb : Below w.heap.size w w') : Rm w' r L e := (hb.block r h.lt).trans h
theorem Rm.new (w : World) (s : ByteArray) : Rm (w.alloc (.cells #[.string s, .int .i64 0] 61)) w.heap.size s 0 := heap_alloc_new w _
end Go.Proofs.YtdkgifjmahkiaaaDoor.L4
