
/- What the document's own reader answers, call by call: the same functions. -/
import Derived.Test.YtepkifledonldaaRefscan
import Derived.Test.YtepkifledonldaaReader
namespace Go.Proofs.Ytepkifledonldaa
open Go.ChangeShapes Go.WideShapes Go.ChangeAt Go.RowKit

/-- the document's reader in memory -/
def Rm (w : World) (r : Nat) (L : ByteArray) (e : Nat) : Prop := w.heap[r]? = some (.cells #[.string L, .int .i64 (e : Int)] 55 (0, 0))
theorem Rm.cell0 {w : World} {r e : Nat} {L : ByteArray} (h : Rm w r L e) : w.cell? ⟨r, 0, none⟩ = some (.string L) := by
  unfold Rm at h
  simp [World.cell?, h]
theorem Rm.cell1 {w : World} {r e : Nat} {L : ByteArray} (h : Rm w r L e) : w.cell? ⟨r, 1, none⟩ = some (.int .i64 (e : Int)) := by
  unfold Rm at h
  simp [World.cell?, h]
theorem Rm.free {w : World} {r e : Nat} {L : ByteArray} (h : Rm w r L e) (i : Nat) : w.frozen? ⟨r, i, none⟩ = false := by
  unfold Rm at h
  simp [World.frozen?, h]
theorem Rm.lt {w : World} {r e : Nat} {L : ByteArray} (h : Rm w r L e) : r < w.heap.size := (Array.getElem?_eq_some_iff.1 h).1
theorem Rm.setErr {w : World} {r e : Nat} {L : ByteArray} (h : Rm w r L e) (e' : Nat) : Rm (w.setCell ⟨r, 1, none⟩ (.int .i64 (e' : Int))) r L e' := by
  unfold Rm at *
  simp [World.setCell, Array.getElem?_modify, h]
theorem Rm.setLeft {w : World} {r e : Nat} {L : ByteArray} (h : Rm w r L e) (L' : ByteArray) : Rm (w.setCell ⟨r, 0, none⟩ (.string L')) r L' e := by
  unfold Rm at *
  simp [World.setCell, Array.getElem?_modify, h]
def ToldM (w w' : World) (r : Nat) (L : ByteArray) (e : Nat) : Prop := w.grownBy w' (some r) ∧ Rm w' r L e
theorem ToldM.refl {w : World} {r e : Nat} {L : ByteArray} (h : Rm w r L e) : ToldM w w r L e := ⟨grown_refl _ _, h⟩
theorem ToldM.err {w : World} {r e : Nat} {L : ByteArray} (h : Rm w r L e) (e' : Nat) : ToldM w (w.setCell ⟨r, 1, none⟩ (.int .i64 (e' : Int))) r L e' := ⟨grown_set _ _ _ _, h.setErr e'⟩
theorem ToldM.left {w : World} {r e : Nat} {L : ByteArray} (h : Rm w r L e) (L' : ByteArray) : ToldM w (w.setCell ⟨r, 0, none⟩ (.string L')) r L' e := ⟨grown_set _ _ _ _, h.setLeft L'⟩
theorem ToldM.both {w : World} {r e : Nat} {L : ByteArray} (h : Rm w r L e) (e' : Nat) (L' : ByteArray) : ToldM w ((w.setCell ⟨r, 1, none⟩ (.int .i64 (e' : Int))).setCell ⟨r, 0, none⟩ (.string L')) r L' e' :=
  ⟨grown_trans (grown_set _ _ _ _) (grown_set _ _ _ _), (h.setErr e').setLeft L'⟩

/- Byte -/
set_option maxRecDepth 10000 in
set_option maxHeartbeats 1000000 in
theorem refByte_any (r e : Nat) (L : ByteArray) (w : World) (hr : Rm w r L e) (hL : L.size ≤ 1000000) :
    Calls Try.prog 29 #[.pointer (some ⟨r, 0, none⟩)] w fun x w' => x = .returned (.int .u8 ((byteR L e).1 : Int)) ∧ ToldM w w' r (byteR L e).2.1 (byteR L e).2.2 := by
  have h0 := hr.cell0
  have h1 := hr.cell1
  have f0 := hr.free 0
  have f1 := hr.free 1
  have HR := hide hr
  clear hr
  unfold byteR
  by_cases he : e ≠ 0
  · rw [if_pos he]
    have hne : ((e : Int) == 0) = false := beq_eq_false_iff_ne.2 (by omega)
    have hne2 : ((e : Int) != 0) = true := bne_iff_ne.2 (by omega)
    clear he
    go_enter Try.func29, Try.ntmps29
    go_wp2
    go_ret
    exact ⟨rfl, .refl (unhide HR)⟩
  · obtain rfl : e = 0 := by omega
    rw [if_neg he]
    clear he
    by_cases hz : L.size = 0
    · rw [if_pos hz]
      have hemp : L.toList.isEmpty = true := by rw [ByteArray.toList_eq, List.isEmpty_iff, List.eq_nil_iff_length_eq_zero, Array.length_toList]; exact hz
      clear hz
      go_enter Try.func29, Try.ntmps29
      go_wp2
      go_ret
      exact ⟨rfl, .err (unhide HR) 20⟩
    · rw [if_neg hz]
      have hp : 0 < L.size := by omega
      have hfull := full_of hp
      have HB := hide (byte0 L hp)
      clear hz
      go_enter Try.func29, Try.ntmps29
      go_wp2
      go_ret
      rw [unhide HB]
      exact ⟨rfl, .left (unhide HR) _⟩

/- Fixed -/
/- Short -/
set_option maxRecDepth 10000 in
set_option maxHeartbeats 1000000 in
theorem refShortR_any (r e : Nat) (L : ByteArray) (w : World) (hr : Rm w r L e) (hL : L.size ≤ 1000000) :
    Calls Try.prog 30 #[.pointer (some ⟨r, 0, none⟩)] w fun x w' => x = .returned (.int .u64 ((shortR L e).1 : Int)) ∧ ToldM w w' r (shortR L e).2.1 (shortR L e).2.2 := by
  have h0 := hr.cell0
  have h1 := hr.cell1
  have f0 := hr.free 0
  have f1 := hr.free 1
  have HR := hide hr
  clear hr
  unfold shortR
  by_cases he : e ≠ 0
  · rw [if_pos he]
    have hne : ((e : Int) == 0) = false := beq_eq_false_iff_ne.2 (by omega)
    have hne2 : ((e : Int) != 0) = true := bne_iff_ne.2 (by omega)
    clear he
    go_enter Try.func30, Try.ntmps30
    go_wp2
    go_ret
    exact ⟨rfl, .refl (unhide HR)⟩
  · obtain rfl : e = 0 := by omega
    rw [if_neg he]
    clear he
    have HS := hide (refScan_any L w (by unfold maxLen; omega))
    have hk := scan_le L
    generalize Pk.scan (bn L) = T at *
    obtain ⟨n, k, er⟩ := T
    have hk' : k ≤ L.size := hk
    clear hk
    go_enter Try.func30, Try.ntmps30
    go_wp2_with (go_at_call 58; refine (unhide HS).mono ?_; rintro x w' ⟨rfl, hw⟩; have hw := hw.symm; subst hw)
    go_ret
    exact ⟨rfl, .both (unhide HR) _ _⟩

/- Left, End -/
set_option maxRecDepth 10000 in
set_option maxHeartbeats 1000000 in
theorem refEnd_any (r e : Nat) (L : ByteArray) (w : World) (hr : Rm w r L e) :
    Calls Try.prog 32 #[.pointer (some ⟨r, 0, none⟩)] w fun x w' => x = .returned (.int .i64 (endR L e : Int)) ∧ w' = w := by
  have h0 := hr.cell0
  have h1 := hr.cell1
  clear hr
  unfold endR
  by_cases he : e = 0
  · subst he
    rw [if_neg (by simp)]
    by_cases hz : L.size = 0
    · rw [if_pos hz]
      have hemp : L.toList.isEmpty = true := by rw [ByteArray.toList_eq, List.isEmpty_iff, List.eq_nil_iff_length_eq_zero, Array.length_toList]; exact hz
      clear hz
      go_enter Try.func32, Try.ntmps32
      go_wp2
      go_ret
      exact ⟨rfl, rfl⟩
    · rw [if_neg hz]
      have hfull := full_of (s := L) (by omega)
      clear hz
      go_enter Try.func32, Try.ntmps32
      go_wp2
      go_ret
      exact ⟨rfl, rfl⟩
  · have hne : ((e : Int) == 0) = false := beq_eq_false_iff_ne.2 (by omega)
    have hne2 : ((e : Int) != 0) = true := bne_iff_ne.2 (by omega)
    rw [if_pos he]
    clear he
    go_enter Try.func32, Try.ntmps32
    go_wp2
    go_ret
    exact ⟨rfl, rfl⟩
end Go.Proofs.Ytepkifledonldaa
