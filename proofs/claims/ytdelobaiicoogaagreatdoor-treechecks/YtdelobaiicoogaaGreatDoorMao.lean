/- Texts that the proof needs, one behind the other. -/
import Derived.Test.YtdelobaiicoogaaGreatDoorMan
import Derived.Test.YtdelobaiicoogaaGreatDoorMac
/- mayHold: may each of these be held once more, as often as it is named? -/
namespace Go.Proofs.YtdelobaiicoogaaGreatDoor
open Go.ChangeShapes Go.WideShapes Go.ChangeAt Go.RowKit
variable {w w' : World} {p d : Nat} {h : Hp} {c : Nat} {F : List Nat}

/-- how often each is named among the first k -/
def nmF (l : List Int) (k : Nat) : Nat → Option Value := fun i => if (l.take k).count (i : Int) = 0 then none else some (.int .i64 ((l.take k).count (i : Int) : Int))
theorem nmF_get (l : List Int) (k : Nat) (x : Int) (h0 : 0 ≤ x) : (nmF l k x.toNat).getD (.int .i64 0) = .int .i64 ((l.take k).count x : Int) := by
  unfold nmF
  rw [Int.toNat_of_nonneg h0]
  split
  · rename_i e
    rw [e]
    rfl
  · rfl
theorem nmF_next (l : List Int) (k : Nat) (hk : k < l.length) (h0 : 0 ≤ l[k]) : (fun i : Nat => if i = (l[k]).toNat then some (.int .i64 (((l.take k).count l[k] : Nat) + 1 : Int)) else nmF l k i) = nmF l (k + 1) := by
  funext i
  have e1 : l.take (k + 1) = l.take k ++ [l[k]] := by rw [List.take_add_one, List.getElem?_eq_getElem hk]; rfl
  unfold nmF
  rw [e1]
  by_cases e : i = (l[k]).toNat
  · have e2 : (i : Int) = l[k] := by omega
    rw [if_pos e, e2, List.count_append, List.count_singleton_self, if_neg (by omega)]
    rfl
  · have e2 : ¬ l[k] = (i : Int) := by omega
    have e3 : [l[k]].count (i : Int) = 0 := by rw [List.count_singleton]; simp [e2]
    rw [if_neg e, List.count_append, e3, Nat.add_zero]

theorem any_of {l : List Int} {f : Int → Bool} {k : Nat} (hk : k < l.length) (h : f l[k] = true) : l.any f = true := List.any_eq_true.2 ⟨_, List.getElem_mem hk, h⟩
theorem any_no {l : List Int} {f : Int → Bool} (h : ∀ k (hk : k < l.length), f l[k] = false) : l.any f = false := by
  rw [List.any_eq_false]
  intro x hx
  obtain ⟨k, hk, rfl⟩ := List.getElem_of_mem hx
  rw [h k hk]
  simp

set_option maxHeartbeats 2000000 in
set_option maxRecDepth 20000 in
theorem mayHold_any (l : List Int) (v : Value) (w : World) (H : IsHeap w p d h c F) (hv : Ints w v l) (hk : ∀ x ∈ l, 2 ≤ x ∧ x < 4096) (hl : l.length ≤ 1100) :
    Calls Tryz.prog 25 #[.pointer (some ⟨p, 0, none⟩), v] w fun e w' => e = .returned (.int .i64 (mayE h.al l)) ∧ Below w.heap.size w w' := by
  obtain ⟨a, b, kb, fd, kf, H, rfl⟩ := H
  have hmm := @run_makeMap Tryz.prog
  obtain ⟨a0, cap0, rfl⟩ := hv.form
  have HH := hide H
  have HV := hide hv
  have HK := hide hk
  have HL := hide hl
  have HW0 := hide ((Vm.made inR w))
  have HB0 := hide (below_alloc w (.map #[] 0))
  clear H hv hk hl
  go_enter Tryz.func25, Tryz.ntmps25
  go_wp2
  clear hmm
  obtain ⟨mb, hmb⟩ : ∃ x, x = w.heap.size := ⟨_, rfl⟩
  have HM := hide hmb
  rw [← hmb] at HW0 ⊢
  clear hmb
  go_loopw [13] (fun t wr => ∃ k : Nat, k ≤ l.length ∧ t = .int .i64 (k : Int) ∧ (∀ j (hj : j < l.length), j < k → cntL h.al l[j] ≠ 0) ∧ Vm inR wr mb k (nmF l k) ∧ Below w.heap.size w wr) (fun t _ => l.length - (intOf t).toNat)
  case atStart => exact ⟨0, Nat.zero_le _, rfl, (fun j hj h => absurd h (Nat.not_lt_zero _)), by have e : nmF l 0 = fun _ => none := rfl; rw [e]; exact unhide HW0, unhide HB0⟩
  case round =>
    clear HW0 HB0
    obtain ⟨k, hk, rfl, hc0, hvm, hb⟩ := hrel
    have HC := hide hc0
    have HVM := hide hvm
    have HB := hide hb
    have hL := unhide HL
    clear hc0 hvm hb
    by_cases hlt : k < l.length
    · obtain ⟨g, rfl, hcell⟩ := ((unhide HV).grow (unhide HB)).at k hlt
      have hx := unhide HK l[k] (List.getElem_mem hlt)
      have c0 := ((unhide HH).grow (unhide HB)).cell0
      have HA := hide ((unhide HH).grow (unhide HB)).al
      have hI : L5.I64 l[k] := by unfold L5.I64; omega
      have HI := hide hI
      have hlt' : (k : Int) < (l.length : Int) := by omega
      have hlk := (unhide HVM).look inR_apart Tryz.underlying146 (zero3 wr) rfl (n := l[k]) (by omega) (by omega)
      rw [nmF_get l k _ (by omega)] at hlk
      have HX := hide hx
      obtain ⟨X, hX⟩ : ∃ y, y = l[k] := ⟨_, rfl⟩
      rw [← hX] at hcell HI hlk HX
      have HXE := hide hX
      have hct : (l.take k).count X ≤ 1100 := by have := List.count_le_length (a := X) (l := l.take k); rw [List.length_take] at this; omega
      clear hx hI hX
      by_cases hz : cntL h.al X = 0
      · have hz' : ((L5.cntS (L5.sec 2 h.al X) : Nat) : Int) = 0 := by have : L5.cntS (L5.sec 2 h.al X) = 0 := hz; omega
        have HZ := hide hz
        clear hz
        go_wp2_with (go_at_call 58; refine (L5.count_any X (unhide HI) _ (unhide HA)).mono ?_; rintro e w1 ⟨rfl, hw⟩; rw [hw]; clear hw w1; rw [hz'])
        go_ret
        refine ⟨?_, unhide HB⟩
        unfold mayE
        rw [any_of hlt (by rw [← unhide HXE]; simpa using unhide HZ), if_pos rfl]
        rfl
      · have hz' : (((L5.cntS (L5.sec 2 h.al X) : Nat) : Int) == 0) = false := beq_eq_false_iff_ne.2 (by have : ¬ L5.cntS (L5.sec 2 h.al X) = 0 := hz; omega)
        have HZ := hide hz
        clear hz
        obtain ⟨C, hC⟩ : ∃ y, y = ((L5.cntS (L5.sec 2 h.al X) : Nat) : Int) := ⟨_, rfl⟩
        rw [← hC] at hz'
        have HCE := hide hC
        clear hC
        have hwrap : IntKind.i64.wrap ((((l.take k).count X : Nat) : Int) + 1) = (((l.take k).count X : Nat) : Int) + 1 := by rw [IntKind.wrap_i64]; omega
        go_wp2_with (first
          | (go_at_call 58; refine (L5.count_any X (unhide HI) _ (unhide HA)).mono ?_; rintro e w1 ⟨rfl, hw⟩; rw [hw]; clear hw w1; rw [← unhide HCE])
          | (at_mapUpdate; refine wp_kstore (R := inR) (u := .int .i64 ((((l.take k).count X : Nat) : Int) + 1)) Tryz.underlying146 rfl _ _ _ rfl rfl rfl (by first | rfl | go_num) (unhide HVM) (by have := unhide HX; omega) (by have := unhide HX; omega) rfl (by unfold maxLen; have := unhide HL; omega) ?_; intro w3 hs3 hg3; have HY := hide (And.intro hs3 hg3); clear hs3 hg3))
        go_roundw
        case rel =>
          obtain ⟨hs3, hg3⟩ := unhide HY
          refine ⟨k + 1, by omega, by go_num, fun j hj hjk => ?_, ?_, ?_⟩
          · by_cases e : j = k
            · subst e
              rw [← unhide HXE]
              exact unhide HZ
            · exact unhide HC j hj (by omega)
          · rw [← nmF_next l k hlt (by have := unhide HX; rw [← unhide HXE]; omega), ← unhide HXE]
            exact hs3
          · have hb := unhide HB
            exact hb.grown hg3 hb.size (fun g hg => by injection hg with hg; have := unhide HM; omega)
        case measure => simp [intOf]; omega
    · obtain rfl : k = l.length := by omega
      clear hlt
      have hno : l.any (fun k => decide (cntL h.al k = 0)) = false := any_no (fun j hj => by simpa using unhide HC j hj hj)
      have HNO := hide hno
      clear hno HC
      go_wp2
      go_loopw [32] (fun t wr => ∃ k : Nat, k ≤ l.length ∧ t = .int .i64 (k : Int) ∧ (∀ j (hj : j < l.length), j < k → ¬ 5000 < cntL h.al l[j] + l.count l[j]) ∧ Vm inR wr mb l.length (nmF l l.length) ∧ Below w.heap.size w wr) (fun t _ => l.length - (intOf t).toNat)
      case atStart => exact ⟨0, Nat.zero_le _, rfl, (fun j hj h => absurd h (Nat.not_lt_zero _)), unhide HVM, unhide HB⟩
      case round =>
        clear HVM HB
        obtain ⟨k, hk, rfl, hc0, hvm, hb⟩ := hrel
        have HC := hide hc0
        have HVM : Hid (Vm inR wr.drew mb l.length (nmF l l.length)) := hvm.same rfl
        have HVM0 := hide hvm
        have HB0 := hide hb
        have HB := hide (below_then hb (below_drew wr))
        clear hc0 hvm hb
        by_cases hlt : k < l.length
        · obtain ⟨g, rfl, hcell⟩ := ((unhide HV).grow (unhide HB0)).at k hlt
          have hx := unhide HK l[k] (List.getElem_mem hlt)
          have c0 := ((unhide HH).grow (unhide HB)).cell0
          have HA := hide ((unhide HH).grow (unhide HB)).al
          have hI : L5.I64 l[k] := by unfold L5.I64; omega
          have HI := hide hI
          have hlt' : (k : Int) < (l.length : Int) := by omega
          have hlk := (unhide HVM).look inR_apart Tryz.underlying146 (zero3 wr.drew) rfl (n := l[k]) (by omega) (by omega)
          rw [nmF_get l l.length _ (by omega), List.take_length] at hlk
          have HX := hide hx
          obtain ⟨X, hX⟩ : ∃ y, y = l[k] := ⟨_, rfl⟩
          rw [← hX] at hcell HI hlk HX
          have HXE := hide hX
          have hct : l.count X ≤ 1100 := by have := List.count_le_length (a := X) (l := l); omega
          have hcn : L5.cntS (L5.sec 2 h.al X) ≤ 5000 := by
            have hs := (unhide HA).ok.sec X
            revert hs
            cases L5.sec 2 h.al X with
            | none => intro _; exact Nat.zero_le _
            | some y => intro hs; exact hs.1
          clear hx hI hX
          obtain ⟨C, hC⟩ : ∃ y, y = L5.cntS (L5.sec 2 h.al X) := ⟨_, rfl⟩
          obtain ⟨T, hTq⟩ : ∃ y, y = l.count X := ⟨_, rfl⟩
          rw [← hC] at hcn
          rw [← hTq] at hct hlk
          have HCE := hide hC
          have HTE := hide hTq
          have hwrap : IntKind.i64.wrap ((C : Int) + (T : Int)) = (C : Int) + (T : Int) := by rw [IntKind.wrap_i64]; omega
          clear hC hTq
          go_wp2_with fail
          go_region_held3 (fun w' => w'.cell? ⟨p, 0, none⟩ = some (.pointer (some ⟨a, 0, none⟩)) ∧ Sem.run Tryz.prog (Instr.lookup 146 (.map (some mb)) (.int .i64 X) false) w' = .ok (.int .i64 (T : Int)) w')
            (first | assumption | exact ⟨c0, hlk⟩)
            (first
              | (go_at_call 58; go_split_ands; refine (L5.count_any X (unhide HI) _ (unhide HA)).mono ?_; rintro e w1 ⟨rfl, hw⟩; rw [hw]; clear hw w1; rw [← unhide HCE]))
          all_goals
            by_cases hbig : 5000 < (C : Int) + (T : Int)
            · go_wp2
              go_ret
              refine ⟨?_, unhide HB⟩
              unfold mayE
              rw [unhide HNO, if_neg (by decide), any_of hlt (by
                rw [← unhide HXE, ← unhide HTE]
                have e : cntL h.al X = C := (unhide HCE).symm
                rw [e]
                have : 5000 < C + T := by omega
                simpa using this), if_pos rfl]
              rfl
            · go_wp2
              go_roundw
              case rel =>
                refine ⟨k + 1, by omega, by go_num, fun j hj hjk => ?_, unhide HVM, unhide HB⟩
                by_cases e : j = k
                · subst e
                  rw [← unhide HXE, ← unhide HTE]
                  have e : cntL h.al X = C := (unhide HCE).symm
                  rw [e]
                  omega
                · exact unhide HC j hj (by omega)
              case measure => simp [intOf]; omega
        · obtain rfl : k = l.length := by omega
          clear hlt
          go_wp2
          go_ret
          refine ⟨?_, unhide HB0⟩
          unfold mayE
          rw [unhide HNO, if_neg (by decide), any_no (fun j hj => by simpa using unhide HC j hj hj), if_neg (by decide)]
          rfl
end Go.Proofs.YtdelobaiicoogaaGreatDoor

/- What block's Wrap does: the document's sector, or the error. -/
namespace Go.Proofs.YtdelobaiicoogaaGreatDoor.L4
open Go.ChangeShapes Go.WideShapes Go.ChangeAt Go.RowKit

set_option maxHeartbeats 400000 in
theorem wrap_arg (K G : Int) (P : ByteArray) (w : World) (h : K < 0 ∨ 255 < K ∨ G < 0 ∨ 1152921504606846976 < G) :
    Calls Tryz.prog 59 #[.agg #[.int .i64 K, .int .i64 G, .string P]] w fun e w' => e = .returned (.tuple #[.string ⟨#[]⟩, .int .i64 1]) ∧ Below w.heap.size w w' := by
  by_cases h1 : K < 0
  · clear h
    go_enter Tryz.func59, Tryz.ntmps59
    go_wp2
    go_ret2
    exact ⟨rfl, (Below.refl _ _).alloc (Nat.le_refl _) _⟩
  · by_cases h2 : 255 < K
    · clear h
      go_enter Tryz.func59, Tryz.ntmps59
      go_wp2
      go_ret2
      exact ⟨rfl, (Below.refl _ _).alloc (Nat.le_refl _) _⟩
    · by_cases h3 : G < 0
      · clear h
        go_enter Tryz.func59, Tryz.ntmps59
        go_wp2
        go_ret2
        exact ⟨rfl, (Below.refl _ _).alloc (Nat.le_refl _) _⟩
      · have h4 : 1152921504606846976 < G := by omega
        clear h
        go_enter Tryz.func59, Tryz.ntmps59
        go_wp2
        go_ret2
        exact ⟨rfl, (Below.refl _ _).alloc (Nat.le_refl _) _⟩

set_option maxHeartbeats 400000 in
theorem wrap_big (K G : Int) (P : ByteArray) (w : World) (h : ¬ (K < 0 ∨ 255 < K ∨ G < 0 ∨ 1152921504606846976 < G)) (hp : 1007 < P.size) :
    Calls Tryz.prog 59 #[.agg #[.int .i64 K, .int .i64 G, .string P]] w fun e w' => e = .returned (.tuple #[.string ⟨#[]⟩, .int .i64 61]) ∧ Below w.heap.size w w' := by
  have h1 : ¬ K < 0 := by omega
  have h2 : ¬ 255 < K := by omega
  have h3 : ¬ G < 0 := by omega
  have h4 : ¬ 1152921504606846976 < G := by omega
  clear h
  go_enter Tryz.func59, Tryz.ntmps59
  go_wp2
  go_ret2
  exact ⟨rfl, (Below.refl _ _).alloc (Nat.le_refl _) _⟩
set_option maxRecDepth 10000 in
set_option maxHeartbeats 4000000 in
theorem wrap_ok (k g : Nat) (P : ByteArray) (w : World) (hT : Tab w) (hk : k ≤ 255) (hg : g ≤ 1152921504606846976) (hp : P.size ≤ 1007) :
    Calls Tryz.prog 59 #[.agg #[.int .i64 (k : Int), .int .i64 (g : Int), .string P]] w fun e w' => e = .returned (.tuple #[.string (strOf (Blk.sector k g (bn P))), .int .i64 0]) ∧ Below w.heap.size w w' := by
  have HT := hide hT
  clear hT
  have h4 : ¬ (1152921504606846976 : Int) < (g : Int) := by omega
  have v1 : IntKind.u64.wrap (g : Int) = (g : Int) := by rw [IntKind.wrap_u64]; omega
  have v2 : IntKind.u8.wrap (k : Int) = (k : Int) := by rw [IntKind.wrap_u8]; omega
  have v3 : IntKind.u8.wrap ((P.size : Int) / 256) = (P.size : Int) / 256 := by rw [IntKind.wrap_u8]; omega
  have v4 : IntKind.u8.wrap (P.size : Int) = (P.size : Int) % 256 := by rw [IntKind.wrap_u8]
  have hcv := three_conv
  have hcv2 := three_conv_drew
  have hF := fun W => fixed_any (g : Int) W (by omega)
  rw [Int.toNat_natCast] at hF
  have HF := hide hF
  clear hF
  go_enter Tryz.func59, Tryz.ntmps59
  go_wp2_with fail
  have HX := Box.new w (.int .i64 (k : Int)) (.int .i64 (g : Int)) (.string P)
  generalize w.alloc (.cells #[.int .i64 (k : Int), .int .i64 (g : Int), .string P] 90) = w1 at *
  have r1 := add_run ⟨#[67, 80]⟩
  have r2 := add_run (⟨#[67, 80]⟩ ++ strOfNums [(k : Int), (P.size : Int) / 256, (P.size : Int) % 256]) (strOf (Pk.fixL g)) (by rw [ByteArray.size_append, strOfNums_size, strOf_size]; show 2 + 3 + 8 ≤ 1000000; decide)
  have z3 : ∀ a b c : Int, (strOfNums [a, b, c]).size = 3 := fun a b c => by rw [strOfNums_size]; rfl
  refine wp_region_noPanic ?_
  refine wp_region_held_drew (S := fun w' => Below w.heap.size w w' ∧ w'.cell? ⟨w.heap.size, 0, none⟩ = some (.int .i64 (k : Int)) ∧ w'.cell? ⟨w.heap.size, 1, none⟩ = some (.int .i64 (g : Int)) ∧ w'.cell? ⟨w.heap.size, 2, none⟩ = some (.string P)) (by kernel_rfl) HX.drew (fun hHeld => ?_)
  refine takeY 0 (some 32) ?_ rfl rfl (by kernel_rfl) (by kernel_rfl) (by kernel_rfl) (fun _ _ _ h => h) (by rfl) ?_ hHeld ?_
  rotate_left
  · intro w hSw; go_simp <;> with_reducible rfl
  simp only [Act.put, List.setIfInBounds_toArray, List.set_cons_zero, List.set_cons_succ]
  refine takeY 1 (some 33) ?_ rfl rfl (by kernel_rfl) (by kernel_rfl) (by kernel_rfl) (fun _ _ _ h => h) (by rfl) ?_ hHeld ?_
  rotate_left
  · intro w hSw; go_simp <;> with_reducible rfl
  simp only [Act.put, List.setIfInBounds_toArray, List.set_cons_zero, List.set_cons_succ]
  refine takeY 2 (some 34) ?_ rfl rfl (by kernel_rfl) (by kernel_rfl) (by kernel_rfl) (fun _ _ _ h => h) (by rfl) ?_ hHeld ?_
  rotate_left
  · intro w hSw; go_simp <;> with_reducible rfl
  simp only [Act.put, List.setIfInBounds_toArray, List.set_cons_zero, List.set_cons_succ]
  refine takeY 3 (some 35) ?_ rfl rfl (by kernel_rfl) (by kernel_rfl) (by kernel_rfl) (fun _ _ _ h => h) (by rfl) ?_ hHeld ?_
  rotate_left
  · intro w hSw; go_simp <;> with_reducible rfl
  simp only [Act.put, List.setIfInBounds_toArray, List.set_cons_zero, List.set_cons_succ]
  refine takeY 4 (some 36) ?_ rfl rfl (by kernel_rfl) (by kernel_rfl) (by kernel_rfl) (fun _ _ _ h => h) (by rfl) ?_ hHeld ?_
  rotate_left
  · intro w hSw; go_simp <;> with_reducible rfl
  simp only [Act.put, List.setIfInBounds_toArray, List.set_cons_zero, List.set_cons_succ]
  refine takeY 5 (some 37) ?_ rfl rfl (by kernel_rfl) (by kernel_rfl) (by kernel_rfl) (fun _ _ _ h => h) (by rfl) ?_ hHeld ?_
  rotate_left
  · intro w hSw; go_simp <;> with_reducible rfl
  simp only [Act.put, List.setIfInBounds_toArray, List.set_cons_zero, List.set_cons_succ]
  refine takeY 6 (some 38) ?_ rfl rfl (by kernel_rfl) (by kernel_rfl) (by kernel_rfl) (fun _ _ _ h => h) (by rfl) ?_ hHeld ?_
  rotate_left
  · intro w hSw; go_simp <;> with_reducible rfl
  simp only [Act.put, List.setIfInBounds_toArray, List.set_cons_zero, List.set_cons_succ]
  refine takeY 7 (some 39) ?_ rfl rfl (by kernel_rfl) (by kernel_rfl) (by kernel_rfl) (fun _ _ _ h => h) (by rfl) ?_ hHeld ?_
  rotate_left
  · intro w hSw; go_simp <;> with_reducible rfl
  simp only [Act.put, List.setIfInBounds_toArray, List.set_cons_zero, List.set_cons_succ]
  refine takeY 11 (some 43) ?_ rfl rfl (by kernel_rfl) (by kernel_rfl) (by kernel_rfl) (fun _ _ _ h => h) (by rfl) ?_ hHeld ?_
  rotate_left
  · intro w hSw; go_simp <;> with_reducible rfl
  simp only [Act.put, List.setIfInBounds_toArray, List.set_cons_zero, List.set_cons_succ]
  refine takeY 12 (some 44) ?_ rfl rfl (by kernel_rfl) (by kernel_rfl) (by kernel_rfl) (fun _ _ _ h => h) (by rfl) ?_ hHeld ?_
  rotate_left
  · intro w hSw; go_simp <;> with_reducible rfl
  simp only [Act.put, List.setIfInBounds_toArray, List.set_cons_zero, List.set_cons_succ]
  refine takeY 13 (some 45) ?_ rfl rfl (by kernel_rfl) (by kernel_rfl) (by kernel_rfl) (fun _ _ _ h => h) (by rfl) ?_ hHeld ?_
  rotate_left
  · intro w hSw; go_simp <;> with_reducible rfl
  simp only [Act.put, List.setIfInBounds_toArray, List.set_cons_zero, List.set_cons_succ]
  refine wpAnyH_ready (rs := [8, 14]) (by kernel_rfl) (by simp) ?_
  refine AllReadyH.cons rfl (fun K hK => ?_) (AllReadyH.cons rfl (fun K hK => ?_) AllReadyH.nil)
  · go_simp
    refine hK.out _ _ (Box.alloc hHeld _) (fun hHeld => ?_)
    clear hK K
    try simp only [Act.put, List.setIfInBounds_toArray, List.set_cons_zero, List.set_cons_succ]
    refine wpAnyH_ready (rs := [9, 14]) (by kernel_rfl) (by simp) ?_
    refine AllReadyH.cons rfl (fun K hK => ?_) (AllReadyH.cons rfl (fun K hK => ?_) AllReadyH.nil)
    · go_simp
      refine hK.out _ _ hHeld (fun hHeld => ?_)
      clear hK K
      try simp only [Act.put, List.setIfInBounds_toArray, List.set_cons_zero, List.set_cons_succ]
      refine takeY 10 (some 42) ?_ rfl rfl (by kernel_rfl) (by kernel_rfl) (by kernel_rfl) (fun _ _ _ h => h) (by rfl) ?_ hHeld ?_
      rotate_left
      · intro w hSw; go_simp <;> with_reducible rfl
      simp only [Act.put, List.setIfInBounds_toArray, List.set_cons_zero, List.set_cons_succ]
      refine wpAnyH_ready (rs := [14]) (by kernel_rfl) (by simp) ?_
      refine AllReadyH.cons rfl (fun K hK => ?_) AllReadyH.nil
      go_simp
      refine (unhide HF _).mono ?_
      rintro e w2 ⟨rfl, hb2⟩
      have HX2 := Box.then hHeld hb2
      refine hK.out _ _ HX2 (fun hHeld => ?_)
      clear hK K
      try simp only [Act.put, List.setIfInBounds_toArray, List.set_cons_zero, List.set_cons_succ]
      refine takeY 15 (some 47) ?_ rfl rfl (by kernel_rfl) (by kernel_rfl) (by kernel_rfl) (fun _ _ _ h => h) (by rfl) ?_ hHeld ?_
      rotate_left
      · intro w hSw; go_simp <;> with_reducible rfl
      simp only [Act.put, List.setIfInBounds_toArray, List.set_cons_zero, List.set_cons_succ]
      refine takeY 16 (some 5) ?_ rfl rfl (by kernel_rfl) (by kernel_rfl) (by kernel_rfl) (fun _ _ _ h => h) (by rfl) ?_ hHeld ?_
      rotate_left
      · intro w hSw; go_simp <;> with_reducible rfl
      simp only [Act.put, List.setIfInBounds_toArray, List.set_cons_zero, List.set_cons_succ]
      refine wpAnyH_done (by kernel_rfl) ?_ _
      refine NoPanic.normal ?_
      obtain ⟨n, hn⟩ : ∃ n : Nat, 1007 - P.size = n := ⟨_, rfl⟩
      have he := sector_text k g P hk hp
      rw [hn] at he
      have HE := hide he
      clear he
      have hn7 : n + P.size = 1007 := by omega
      clear hn
      have v5 : (1007 : Int) - (P.size : Int) = (n : Int) := by omega
      have v6 : IntKind.i64.wrap (1007 - (P.size : Int)) = (n : Int) := by rw [v5, IntKind.wrap_i64]; omega
      have v7 : IntKind.i64.wrap (n : Int) = (n : Int) := by rw [IntKind.wrap_i64]; omega
      have hTz : (⟨#[67, 80]⟩ ++ strOfNums [(k : Int), (P.size : Int) / 256, (P.size : Int) % 256] ++ strOf (Pk.fixL g)).size = 13 := text_size k g P
      generalize ⟨#[67, 80]⟩ ++ strOfNums [(k : Int), (P.size : Int) / 256, (P.size : Int) % 256] ++ strOf (Pk.fixL g) = T at *
      have HH := hide (Box.drew hHeld)
      clear hHeld hcv hcv2 r1 r2 z3
      have r3 := add_run P (zeros n) (by rw [zeros_size]; omega)
      have r4 := add_run T (P ++ zeros n) (by rw [ByteArray.size_append, zeros_size]; omega)
      go_wp2_with fail
      go_region_held3 (fun w' => Below w.heap.size w w' ∧ w'.cell? ⟨w.heap.size, 2, none⟩ = some (.string P))
        (first | assumption | exact ⟨(unhide HH).1, (unhide HH).2.2.2⟩ | exact ⟨(unhide H3).1, (unhide H3).2.2.2⟩)
        (first | (go_at_call 100; refine (zeros_any n _ (by omega)).mono ?_; rintro e w3 ⟨rfl, hb3⟩; have H3 := hide (Box.then (unhide HH) hb3)))
      have hz : (T ++ (P ++ zeros n)).size = 1020 := by rw [ByteArray.size_append, ByteArray.size_append, zeros_size]; omega
      have HT3 := hide ((unhide HT).below (unhide H3).1)
      have HB3 := hide (unhide H3).1
      clear HH H3 HX2 r3 r4 hb3
      generalize T ++ (P ++ zeros n) = U at *
      have HS := hide (fun w' (h : Tab w') => sumOf_any U w' h (by unfold maxLen; omega))
      have hq : ∀ c, (strOf (Blk.le4 c)).size = 4 := fun c => strOf_size _
      go_wp2_with (go_at_call 101; refine (unhide HS _ (unhide HT3)).mono ?_; rintro e w4 ⟨rfl, hb4⟩)
      go_ret2
      refine ⟨?_, below_then (unhide HB3) hb4⟩
      exact ret2_si (s := U ++ strOf (Blk.le4 (Crc.sum (bn U)))) (unhide HE)
    · go_simp
      refine (unhide HF _).mono ?_
      rintro e w2 ⟨rfl, hb2⟩
      have HX2 := Box.then hHeld hb2
      have hc2 := conv_kept hb2
      refine hK.out _ _ HX2 (fun hHeld => ?_)
      clear hK K
      try simp only [Act.put, List.setIfInBounds_toArray, List.set_cons_zero, List.set_cons_succ]
      refine wpAnyH_ready (rs := [9]) (by kernel_rfl) (by simp) ?_
      refine AllReadyH.cons rfl (fun K hK => ?_) AllReadyH.nil
      go_simp
      refine hK.out _ _ hHeld (fun hHeld => ?_)
      clear hK K
      try simp only [Act.put, List.setIfInBounds_toArray, List.set_cons_zero, List.set_cons_succ]
      refine takeY 10 (some 42) ?_ rfl rfl (by kernel_rfl) (by kernel_rfl) (by kernel_rfl) (fun _ _ _ h => h) (by rfl) ?_ hHeld ?_
      rotate_left
      · intro w hSw; go_simp <;> with_reducible rfl
      simp only [Act.put, List.setIfInBounds_toArray, List.set_cons_zero, List.set_cons_succ]
      refine takeY 15 (some 47) ?_ rfl rfl (by kernel_rfl) (by kernel_rfl) (by kernel_rfl) (fun _ _ _ h => h) (by rfl) ?_ hHeld ?_
      rotate_left
      · intro w hSw; go_simp <;> with_reducible rfl
      simp only [Act.put, List.setIfInBounds_toArray, List.set_cons_zero, List.set_cons_succ]
      refine takeY 16 (some 5) ?_ rfl rfl (by kernel_rfl) (by kernel_rfl) (by kernel_rfl) (fun _ _ _ h => h) (by rfl) ?_ hHeld ?_
      rotate_left
      · intro w hSw; go_simp <;> with_reducible rfl
      simp only [Act.put, List.setIfInBounds_toArray, List.set_cons_zero, List.set_cons_succ]
      refine wpAnyH_done (by kernel_rfl) ?_ _
      refine NoPanic.normal ?_
      obtain ⟨n, hn⟩ : ∃ n : Nat, 1007 - P.size = n := ⟨_, rfl⟩
      have he := sector_text k g P hk hp
      rw [hn] at he
      have HE := hide he
      clear he
      have hn7 : n + P.size = 1007 := by omega
      clear hn
      have v5 : (1007 : Int) - (P.size : Int) = (n : Int) := by omega
      have v6 : IntKind.i64.wrap (1007 - (P.size : Int)) = (n : Int) := by rw [v5, IntKind.wrap_i64]; omega
      have v7 : IntKind.i64.wrap (n : Int) = (n : Int) := by rw [IntKind.wrap_i64]; omega
      have hTz : (⟨#[67, 80]⟩ ++ strOfNums [(k : Int), (P.size : Int) / 256, (P.size : Int) % 256] ++ strOf (Pk.fixL g)).size = 13 := text_size k g P
      generalize ⟨#[67, 80]⟩ ++ strOfNums [(k : Int), (P.size : Int) / 256, (P.size : Int) % 256] ++ strOf (Pk.fixL g) = T at *
      have HH := hide (Box.drew hHeld)
      clear hHeld hcv hcv2 r1 r2 z3
      have r3 := add_run P (zeros n) (by rw [zeros_size]; omega)
      have r4 := add_run T (P ++ zeros n) (by rw [ByteArray.size_append, zeros_size]; omega)
      go_wp2_with fail
      go_region_held3 (fun w' => Below w.heap.size w w' ∧ w'.cell? ⟨w.heap.size, 2, none⟩ = some (.string P))
        (first | assumption | exact ⟨(unhide HH).1, (unhide HH).2.2.2⟩ | exact ⟨(unhide H3).1, (unhide H3).2.2.2⟩)
        (first | (go_at_call 100; refine (zeros_any n _ (by omega)).mono ?_; rintro e w3 ⟨rfl, hb3⟩; have H3 := hide (Box.then (unhide HH) hb3)))
      have hz : (T ++ (P ++ zeros n)).size = 1020 := by rw [ByteArray.size_append, ByteArray.size_append, zeros_size]; omega
      have HT3 := hide ((unhide HT).below (unhide H3).1)
      have HB3 := hide (unhide H3).1
      clear HH H3 HX2 r3 r4 hb3
      generalize T ++ (P ++ zeros n) = U at *
      have HS := hide (fun w' (h : Tab w') => sumOf_any U w' h (by unfold maxLen; omega))
      have hq : ∀ c, (strOf (Blk.le4 c)).size = 4 := fun c => strOf_size _
      go_wp2_with (go_at_call 101; refine (unhide HS _ (unhide HT3)).mono ?_; rintro e w4 ⟨rfl, hb4⟩)
      go_ret2
      refine ⟨?_, below_then (unhide HB3) hb4⟩
      exact ret2_si (s := U ++ strOf (Blk.le4 (Crc.sum (bn U)))) (unhide HE)
  · go_simp
    refine (unhide HF _).mono ?_
    rintro e w2 ⟨rfl, hb2⟩
    have HX2 := Box.then hHeld hb2
    refine hK.out _ _ HX2 (fun hHeld => ?_)
    clear hK K
    try simp only [Act.put, List.setIfInBounds_toArray, List.set_cons_zero, List.set_cons_succ]
    refine wpAnyH_ready (rs := [8]) (by kernel_rfl) (by simp) ?_
    refine AllReadyH.cons rfl (fun K hK => ?_) AllReadyH.nil
    go_simp
    refine hK.out _ _ (Box.alloc hHeld _) (fun hHeld => ?_)
    clear hK K
    try simp only [Act.put, List.setIfInBounds_toArray, List.set_cons_zero, List.set_cons_succ]
    refine wpAnyH_ready (rs := [9]) (by kernel_rfl) (by simp) ?_
    refine AllReadyH.cons rfl (fun K hK => ?_) AllReadyH.nil
    go_simp
    refine hK.out _ _ hHeld (fun hHeld => ?_)
    clear hK K
    try simp only [Act.put, List.setIfInBounds_toArray, List.set_cons_zero, List.set_cons_succ]
    refine takeY 10 (some 42) ?_ rfl rfl (by kernel_rfl) (by kernel_rfl) (by kernel_rfl) (fun _ _ _ h => h) (by rfl) ?_ hHeld ?_
    rotate_left
    · intro w hSw; go_simp <;> with_reducible rfl
    simp only [Act.put, List.setIfInBounds_toArray, List.set_cons_zero, List.set_cons_succ]
    refine takeY 15 (some 47) ?_ rfl rfl (by kernel_rfl) (by kernel_rfl) (by kernel_rfl) (fun _ _ _ h => h) (by rfl) ?_ hHeld ?_
    rotate_left
    · intro w hSw; go_simp <;> with_reducible rfl
    simp only [Act.put, List.setIfInBounds_toArray, List.set_cons_zero, List.set_cons_succ]
    refine takeY 16 (some 5) ?_ rfl rfl (by kernel_rfl) (by kernel_rfl) (by kernel_rfl) (fun _ _ _ h => h) (by rfl) ?_ hHeld ?_
    rotate_left
    · intro w hSw; go_simp <;> with_reducible rfl
    simp only [Act.put, List.setIfInBounds_toArray, List.set_cons_zero, List.set_cons_succ]
    refine wpAnyH_done (by kernel_rfl) ?_ _
    refine NoPanic.normal ?_
    obtain ⟨n, hn⟩ : ∃ n : Nat, 1007 - P.size = n := ⟨_, rfl⟩
    have he := sector_text k g P hk hp
    rw [hn] at he
    have HE := hide he
    clear he
    have hn7 : n + P.size = 1007 := by omega
    clear hn
    have v5 : (1007 : Int) - (P.size : Int) = (n : Int) := by omega
    have v6 : IntKind.i64.wrap (1007 - (P.size : Int)) = (n : Int) := by rw [v5, IntKind.wrap_i64]; omega
    have v7 : IntKind.i64.wrap (n : Int) = (n : Int) := by rw [IntKind.wrap_i64]; omega
    have hTz : (⟨#[67, 80]⟩ ++ strOfNums [(k : Int), (P.size : Int) / 256, (P.size : Int) % 256] ++ strOf (Pk.fixL g)).size = 13 := text_size k g P
    generalize ⟨#[67, 80]⟩ ++ strOfNums [(k : Int), (P.size : Int) / 256, (P.size : Int) % 256] ++ strOf (Pk.fixL g) = T at *
    have HH := hide (Box.drew hHeld)
    clear hHeld hcv hcv2 r1 r2 z3
    have r3 := add_run P (zeros n) (by rw [zeros_size]; omega)
    have r4 := add_run T (P ++ zeros n) (by rw [ByteArray.size_append, zeros_size]; omega)
    go_wp2_with fail
    go_region_held3 (fun w' => Below w.heap.size w w' ∧ w'.cell? ⟨w.heap.size, 2, none⟩ = some (.string P))
      (first | assumption | exact ⟨(unhide HH).1, (unhide HH).2.2.2⟩ | exact ⟨(unhide H3).1, (unhide H3).2.2.2⟩)
      (first | (go_at_call 100; refine (zeros_any n _ (by omega)).mono ?_; rintro e w3 ⟨rfl, hb3⟩; have H3 := hide (Box.then (unhide HH) hb3)))
    have hz : (T ++ (P ++ zeros n)).size = 1020 := by rw [ByteArray.size_append, ByteArray.size_append, zeros_size]; omega
    have HT3 := hide ((unhide HT).below (unhide H3).1)
    have HB3 := hide (unhide H3).1
    clear HH H3 HX2 r3 r4 hb3
    generalize T ++ (P ++ zeros n) = U at *
    have HS := hide (fun w' (h : Tab w') => sumOf_any U w' h (by unfold maxLen; omega))
    have hq : ∀ c, (strOf (Blk.le4 c)).size = 4 := fun c => strOf_size _
    go_wp2_with (go_at_call 101; refine (unhide HS _ (unhide HT3)).mono ?_; rintro e w4 ⟨rfl, hb4⟩)
    go_ret2
    refine ⟨?_, below_then (unhide HB3) hb4⟩
    exact ret2_si (s := U ++ strOf (Blk.le4 (Crc.sum (bn U)))) (unhide HE)

theorem wrap_any (K G : Int) (P : ByteArray) (w : World) (hT : Tab w) :
    Calls Tryz.prog 59 #[.agg #[.int .i64 K, .int .i64 G, .string P]] w fun e w' => e = .returned (.tuple #[.string (wrapR K G P).1, .int .i64 ((wrapR K G P).2 : Nat)]) ∧ Below w.heap.size w w' := by
  by_cases h : K < 0 ∨ 255 < K ∨ G < 0 ∨ 1152921504606846976 < G
  · rw [wrapR_arg h]
    exact wrap_arg K G P w h
  · by_cases hp : 1007 < P.size
    · rw [wrapR_big h hp]
      exact wrap_big K G P w h hp
    · rw [wrapR_ok h hp]
      obtain ⟨k, rfl⟩ := Int.eq_ofNat_of_zero_le (show 0 ≤ K by omega)
      obtain ⟨g, rfl⟩ := Int.eq_ofNat_of_zero_le (show 0 ≤ G by omega)
      exact wrap_ok k g P w hT (by omega) (by omega) (by omega)
end Go.Proofs.YtdelobaiicoogaaGreatDoor.L4
