/- The document's allocator: Take, Free, Room, Waiting. -/
import Derived.Test.YtkfpeffiphdhmaaRefc
namespace Go.Proofs.Ytkfpeffiphdhmaa
open Go.ChangeShapes Go.WideShapes Go.ChangeAt Go.RowKit

variable {w w' : World} {r g fr : Nat} {l : List St}

theorem Rep.free {q : Rc} {s : St} (h : Rep q s) : freeS s = ((q.c == 0) && !q.wt) := by
  match s, h with
  | none, h => rw [h.1, h.2]; rfl
  | some (0, g), h => rw [h.1, h.2.1]; rfl
  | some (c + 1, g), h =>
    rw [h.1, h.2.1, beq_false_of_ne (by omega)]
    rfl
theorem Rep.due {q : Rc} {s : St} (h : Rep q s) (gen : Int) : dueS gen s = (q.wt && decide (q.f ≤ gen)) := by
  match s, h with
  | none, h => rw [h.2]; rfl
  | some (0, g), h => rw [h.2.1, h.2.2]; simp [dueS]
  | some (c + 1, g), h => rw [h.2.1]; rfl
/-- of the first k -/
def upTo (p : St → Bool) (l : List St) (k : Nat) : Nat := (l.take k).countP p
theorem upTo_succ (p : St → Bool) (l : List St) (k : Nat) (hk : k < l.length) : upTo p l (k + 1) = upTo p l k + (if p l[k] = true then 1 else 0) := by
  unfold upTo
  rw [List.take_succ_eq_append_getElem hk, List.countP_append]
  simp [List.countP_cons]
theorem upTo_all (p : St → Bool) (l : List St) : upTo p l l.length = l.countP p := by unfold upTo; rw [List.take_length]
theorem upTo_le (p : St → Bool) (l : List St) (k : Nat) : upTo p l k ≤ l.length := by
  unfold upTo
  have := List.countP_le_length (p := p) (l := l.take k)
  have := List.length_take_le' k l
  omega

set_option maxHeartbeats 2000000 in
set_option maxRecDepth 20000 in
theorem rroom_any (w : World) (h : RefAt w r g fr l) :
    Calls Try.prog 24 #[.pointer (some ⟨r, 0, none⟩)] w fun e w' => e = .returned (.int .i64 (room l : Int)) ∧ w' = w := by
  have c1 := h.cell1
  have hlen : l.length ≤ 4096 := by have := h.ok.few; omega
  have HH := hide h
  clear h
  go_enter Try.func24, Try.ntmps24
  go_wp2_with fail
  go_loopw [3, 4] (fun v3 v4 wr => ∃ k : Nat, k ≤ l.length ∧ v4 = .int .i64 (k : Int) ∧ v3 = .int .i64 (upTo freeS l k : Int) ∧ wr = w) (fun _ v4 _ => l.length - (intOf v4).toNat)
  case atStart => exact ⟨0, Nat.zero_le _, rfl, rfl, rfl⟩
  case round =>
    obtain ⟨k, hk, rfl, rfl, rfl⟩ := hrel
    have hul := upTo_le freeS l k
    by_cases hlt : k < l.length
    · have hlt' : (k : Int) < (l.length : Int) := by omega
      obtain ⟨q, hq, hrep⟩ := (unhide HH).row k l[k] (List.getElem?_eq_getElem hlt)
      have q0 := hq.c0
      have q3 := hq.c3
      have hst := upTo_succ freeS l k hlt
      rw [hrep.free] at hst
      have HST := hide hst
      clear hq hrep hst
      by_cases hc : q.c = 0
      · rw [hc] at q0
        cases hwt : q.wt with
        | true =>
          rw [hwt] at q3
          go_wp2
          go_roundw
          case rel => exact ⟨k + 1, by omega, by go_num, by rw [unhide HST, hwt]; simp, trivial⟩
          case measure => simp [intOf]; omega
        | false =>
          rw [hwt] at q3
          go_wp2
          go_roundw
          case rel => exact ⟨k + 1, by omega, by go_num, by rw [unhide HST, hwt, hc]; go_num, trivial⟩
          case measure => simp [intOf]; omega
      · have hcb : (q.c == 0) = false := beq_false_of_ne hc
        go_wp2
        go_roundw
        case rel => exact ⟨k + 1, by omega, by go_num, by rw [unhide HST, hcb]; simp, trivial⟩
        case measure => simp [intOf]; omega
    · have hlt' : ¬ (k : Int) < (l.length : Int) := by omega
      have hkl : k = l.length := by omega
      subst hkl
      have e := upTo_all freeS l
      have HE := hide e
      clear e
      go_wp2
      go_ret
      rw [show room l = upTo freeS l l.length from (unhide HE).symm]
      exact ⟨rfl, rfl⟩
set_option maxHeartbeats 2000000 in
set_option maxRecDepth 20000 in
theorem rwaiting_any (w : World) (h : RefAt w r g fr l) :
    Calls Try.prog 26 #[.pointer (some ⟨r, 0, none⟩)] w fun e w' => e = .returned (.int .i64 (waiting l : Int)) ∧ w' = w := by
  have c1 := h.cell1
  have hlen : l.length ≤ 4096 := by have := h.ok.few; omega
  have HH := hide h
  clear h
  go_enter Try.func26, Try.ntmps26
  go_wp2_with fail
  go_loopw [3, 4] (fun v3 v4 wr => ∃ k : Nat, k ≤ l.length ∧ v4 = .int .i64 (k : Int) ∧ v3 = .int .i64 (upTo waitS l k : Int) ∧ wr = w) (fun _ v4 _ => l.length - (intOf v4).toNat)
  case atStart => exact ⟨0, Nat.zero_le _, rfl, rfl, rfl⟩
  case round =>
    obtain ⟨k, hk, rfl, rfl, rfl⟩ := hrel
    have hul := upTo_le waitS l k
    by_cases hlt : k < l.length
    · have hlt' : (k : Int) < (l.length : Int) := by omega
      obtain ⟨q, hq, hrep⟩ := (unhide HH).row k l[k] (List.getElem?_eq_getElem hlt)
      have q3 := hq.c3
      have hst := upTo_succ waitS l k hlt
      rw [← hrep.wait] at hst
      have HST := hide hst
      clear hq hrep hst
      cases hwt : q.wt with
      | true =>
        rw [hwt] at q3
        go_wp2
        go_roundw
        case rel => exact ⟨k + 1, by omega, by go_num, by rw [unhide HST, hwt]; go_num, trivial⟩
        case measure => simp [intOf]; omega
      | false =>
        rw [hwt] at q3
        go_wp2
        go_roundw
        case rel => exact ⟨k + 1, by omega, by go_num, by rw [unhide HST, hwt]; simp, trivial⟩
        case measure => simp [intOf]; omega
    · have hlt' : ¬ (k : Int) < (l.length : Int) := by omega
      have hkl : k = l.length := by omega
      subst hkl
      have e := upTo_all waitS l
      have HE := hide e
      clear e
      go_wp2
      go_ret
      rw [show waiting l = upTo waitS l l.length from (unhide HE).symm]
      exact ⟨rfl, rfl⟩

/-! Free -/
/-- the first k are freed -/
def fre (gen : Int) (l : List St) (k : Nat) : List St := (l.take k).map (freedS gen) ++ l.drop k
theorem fre_zero (gen : Int) (l : List St) : fre gen l 0 = l := by simp [fre]
theorem fre_all (gen : Int) (l : List St) : fre gen l l.length = freeM l gen := by simp [fre, freeM]
theorem fre_length (gen : Int) (l : List St) (k : Nat) (hk : k ≤ l.length) : (fre gen l k).length = l.length := by simp [fre]; omega
theorem fre_at (gen : Int) (l : List St) (k : Nat) (hk : k < l.length) : (fre gen l k)[k]? = some l[k] := by
  unfold fre
  have e : k - (List.map (freedS gen) (List.take k l)).length = 0 := by simp; omega
  rw [List.getElem?_append_right (by simp; omega), e, List.drop_eq_getElem_cons hk]
  rfl
theorem fre_succ (gen : Int) (l : List St) (k : Nat) (hk : k < l.length) : fre gen l (k + 1) = (fre gen l k).set k (freedS gen l[k]) := by
  unfold fre
  rw [List.take_succ_eq_append_getElem hk, List.map_append, List.set_append_right _ _ (by simp; omega)]
  have e : k - (List.map (freedS gen) (List.take k l)).length = 0 := by simp; omega
  rw [e, List.drop_eq_getElem_cons hk, List.set_cons_zero, List.append_assoc]
  rfl
set_option maxHeartbeats 4000000 in
set_option maxRecDepth 20000 in
theorem rfree_any (gen : Int) (w : World) (h : RefAt w r g fr l) :
    Calls Try.prog 20 #[.pointer (some ⟨r, 0, none⟩), .int .i64 gen] w fun e w' => e = .returned (.int .i64 (freeN l gen : Int)) ∧ RefAt w' r g fr (freeM l gen) ∧ Moves [g] w w' := by
  have hlen : l.length ≤ 4096 := by have := h.ok.few; omega
  have HH := hide h
  clear h
  go_enter Try.func20, Try.ntmps20
  go_wp2_with fail
  go_loopw [5, 6] (fun v5 v6 wr => ∃ k : Nat, k ≤ l.length ∧ v6 = .int .i64 (k : Int) ∧ v5 = .int .i64 (upTo (dueS gen) l k : Int) ∧ RefAt wr r g fr (fre gen l k) ∧ Moves [g] w wr) (fun _ v6 _ => l.length - (intOf v6).toNat)
  case atStart => exact ⟨0, Nat.zero_le _, rfl, rfl, by rw [fre_zero]; exact unhide HH, Moves.refl _ _⟩
  case round =>
    obtain ⟨k, hk, rfl, rfl, hR, hm⟩ := hrel
    have hul := upTo_le (dueS gen) l k
    have c1 := hR.cell1
    rw [fre_length gen l k hk] at c1
    by_cases hlt : k < l.length
    · have hlt' : (k : Int) < (l.length : Int) := by omega
      obtain ⟨q, hq, hrep⟩ := hR.row k l[k] (fre_at gen l k hlt)
      have q0 := hq.c0
      have q1 := hq.c1
      have q2 := hq.c2
      have q3 := hq.c3
      have hf := hR.free
      have hst := upTo_succ (dueS gen) l k hlt
      have hfs := fre_succ gen l k hlt
      have hdu := hrep.due gen
      have HST := hide (And.intro hst (And.intro hfs hdu))
      have HR := hide hR
      have HM := hide hm
      have hsame : dueS gen l[k] = false → RefAt wr r g fr (fre gen l (k + 1)) := by
        intro e
        rw [hfs, show freedS gen l[k] = l[k] by unfold freedS; rw [e]; rfl, set_same (fre_at gen l k hlt)]
        exact hR
      have HSAME := hide hsame
      clear hq hrep hst hfs hdu hR hm hsame
      cases hwt : q.wt with
      | false =>
        rw [hwt] at q3
        have HD : Hid (dueS gen l[k] = false) := by show dueS gen l[k] = false; rw [(unhide HST).2.2, hwt]; rfl
        go_wp2
        go_roundw
        case rel => exact ⟨k + 1, by omega, by go_num, by rw [(unhide HST).1, unhide HD]; simp, unhide HSAME (unhide HD), unhide HM⟩
        case measure => simp [intOf]; omega
      | true =>
        rw [hwt] at q3
        by_cases hle : q.f ≤ gen
        · have HD : Hid (dueS gen l[k] = true) := by show dueS gen l[k] = true; rw [(unhide HST).2.2, hwt]; simp [hle]
          go_wp2
          go_roundw
          case rel =>
            refine ⟨k + 1, by omega, by go_num, by rw [(unhide HST).1, unhide HD]; go_num, ?_, (unhide HM).then (put4_moves wr g (k * 4) ⟨0, 0, 0, false⟩)⟩
            rw [(unhide HST).2.1, show freedS gen l[k] = none by unfold freedS; rw [unhide HD]; rfl]
            exact (unhide HR).put (q := ⟨0, 0, 0, false⟩) (by rw [fre_length gen l k hk]; exact hlt) ⟨rfl, rfl⟩ trivial
          case measure => simp [intOf]; omega
        · have HD : Hid (dueS gen l[k] = false) := by show dueS gen l[k] = false; rw [(unhide HST).2.2, hwt]; simp; omega
          go_wp2
          go_roundw
          case rel => exact ⟨k + 1, by omega, by go_num, by rw [(unhide HST).1, unhide HD]; simp, unhide HSAME (unhide HD), unhide HM⟩
          case measure => simp [intOf]; omega
    · have hlt' : ¬ (k : Int) < (l.length : Int) := by omega
      have hkl : k = l.length := by omega
      subst hkl
      have HX := hide (And.intro hR hm)
      clear hR hm
      go_wp2
      go_ret
      have hX := unhide HX
      rw [fre_all] at hX
      rw [show freeN l gen = upTo (dueS gen) l l.length from (upTo_all _ _).symm]
      exact ⟨rfl, hX.1, hX.2⟩

/-! Take -/
set_option maxHeartbeats 4000000 in
set_option maxRecDepth 20000 in
theorem rtake_any (gen : Int) (hgen : I64 gen) (w : World) (h : RefAt w r g fr l) :
    Calls Try.prog 12 #[.pointer (some ⟨r, 0, none⟩), .int .i64 gen] w fun e w' => e = .returned (.tuple #[.int .i64 (takeN fr l), .int .i64 (takeE l)]) ∧ RefAt w' r g fr (takeM l gen) ∧ Moves [g] w w' := by
  have c0 := h.cell0
  have c1 := h.cell1
  have hf := h.free
  have hfew := h.ok.few
  have HH := hide h
  have HG := hide hgen
  have hne : (⟨r, 0, none⟩ : Addr) ≠ ⟨g, 0, none⟩ := fun e => h.ne (by injection e)
  have hrg : r ≠ g := h.ne
  clear h hgen
  go_enter Try.func12, Try.ntmps12
  go_wp2_with fail
  go_loopw [6] (fun v wr => ∃ k : Nat, k ≤ l.length ∧ v = .int .i64 (k : Int) ∧ wr = w ∧ ∀ j, j < k → l[j]? ≠ some none) (fun v _ => l.length - (intOf v).toNat)
  case atStart => exact ⟨0, Nat.zero_le _, rfl, rfl, fun j hj => absurd hj (Nat.not_lt_zero _)⟩
  case round =>
    obtain ⟨k, hk, rfl, rfl, hp⟩ := hrel
    have HP := hide hp
    clear hp
    by_cases hlt : k < l.length
    · have hlt' : (k : Int) < (l.length : Int) := by omega
      obtain ⟨q, hq, hrep⟩ := (unhide HH).row k l[k] (List.getElem?_eq_getElem hlt)
      have q0 := hq.c0
      have q1 := hq.c1
      have q2 := hq.c2
      have q3 := hq.c3
      have hfr := hrep.free
      have HF := hide hfr
      clear hq hrep hfr
      have next : Hid (freeS l[k] = false → ∀ j, j < k + 1 → l[j]? ≠ some none) := by
        intro e j hj
        by_cases ej : j = k
        · subst ej
          rw [List.getElem?_eq_getElem hlt]
          intro e2
          rw [Option.some.inj e2] at e
          cases e
        · exact unhide HP j (by omega)
      by_cases hc : q.c = 0
      · rw [hc] at q0
        cases hwt : q.wt with
        | true =>
          rw [hwt] at q3
          have HN : Hid (freeS l[k] = false) := by show freeS l[k] = false; rw [unhide HF, hwt]; simp
          go_wp2
          go_roundw
          case rel => exact ⟨k + 1, by omega, by go_num, trivial, unhide next (unhide HN)⟩
          case measure => simp [intOf]; omega
        | false =>
          rw [hwt] at q3
          have hat : l[k]? = some none := by
            rw [List.getElem?_eq_getElem hlt, (freeS_iff l[k]).1 (by rw [unhide HF, hwt, hc]; rfl)]
          have htk := take_some hat (unhide HP)
          have en : takeN fr l = (fr : Int) + (k : Int) := by unfold takeN; rw [htk]
          have ee : takeE l = 0 := by unfold takeE; rw [htk]
          have em : takeM l gen = l.set k (some (1, gen)) := by unfold takeM; rw [htk]
          have HE := hide (And.intro en (And.intro ee em))
          have hw : IntKind.i64.wrap ((fr : Int) + (k : Int)) = (fr : Int) + (k : Int) := by rw [IntKind.wrap_i64]; omega
          have HS := hide ((unhide HH).put (q := ⟨1, gen, 0, false⟩) (s := some (1, gen)) hlt ⟨rfl, rfl, rfl⟩ ⟨by decide, unhide HG⟩)
          have z0 := (unhide HS).cell0
          unfold put4 at z0
          clear hat htk en ee em next
          go_wp2
          go_ret2
          obtain ⟨en, ee, em⟩ := unhide HE
          rw [en, ee, em]
          exact ⟨rfl, unhide HS, put4_moves _ _ _ ⟨1, gen, 0, false⟩⟩
      · have hcb : (q.c == 0) = false := beq_false_of_ne hc
        have HN : Hid (freeS l[k] = false) := by show freeS l[k] = false; rw [unhide HF, hcb]; rfl
        go_wp2
        go_roundw
        case rel => exact ⟨k + 1, by omega, by go_num, trivial, unhide next (unhide HN)⟩
        case measure => simp [intOf]; omega
    · have hlt' : ¬ (k : Int) < (l.length : Int) := by omega
      have hkl : k = l.length := by omega
      subst hkl
      have htk := take_none (unhide HP)
      have en : takeN fr l = 0 := by unfold takeN; rw [htk]
      have ee : takeE l = 50 := by unfold takeE; rw [htk]
      have em : takeM l gen = l := by unfold takeM; rw [htk]
      have HE := hide (And.intro en (And.intro ee em))
      clear htk en ee em
      go_wp2
      go_ret2
      obtain ⟨en, ee, em⟩ := unhide HE
      rw [en, ee, em]
      exact ⟨rfl, unhide HH, Moves.refl _ _⟩
end Go.Proofs.Ytkfpeffiphdhmaa
