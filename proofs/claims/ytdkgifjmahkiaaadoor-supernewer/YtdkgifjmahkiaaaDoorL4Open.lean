/- What block's Open does: the document's block, or the error. -/
import Derived.Test.YtdkgifjmahkiaaaDoorL4Block
import Derived.Test.YtdkgifjmahkiaaaDoorL4Wrap
namespace Go.Proofs.YtdkgifjmahkiaaaDoor.L4
open Go.ChangeShapes Go.WideShapes Go.ChangeAt Go.RowKit

/-- the result's variable is as it began -/
def Res (W w : World) : Prop := Below W.heap.size W w ∧ w.heap[W.heap.size]? = some (.cells #[.int .i64 0, .int .i64 0, .string ⟨#[]⟩] 33 (0, 0))
theorem Res.new (W : World) : Res W (W.alloc (.cells #[.int .i64 0, .int .i64 0, .string ⟨#[]⟩] 33)) := ⟨(Below.refl _ _).alloc (Nat.le_refl _) _, heap_alloc_new W _⟩
theorem Res.then {W w w' : World} (h : Res W w) (hb : Below w.heap.size w w') : Res W w' :=
  ⟨below_then h.1 hb, (hb.block _ (Array.getElem?_eq_some_iff.1 h.2).1).trans h.2⟩
theorem Res.drew {W w : World} (h : Res W w) : Res W w.drew := h.then (Below.refl _ _).drew
theorem Res.cells {W w : World} (h : Res W w) : w.cell? ⟨W.heap.size, 0, none⟩ = some (.int .i64 0) ∧ w.cell? ⟨W.heap.size, 1, none⟩ = some (.int .i64 0) ∧ w.cell? ⟨W.heap.size, 2, none⟩ = some (.string ⟨#[]⟩) ∧ ∀ i, w.frozen? ⟨W.heap.size, i, none⟩ = false := by
  have h2 := h.2
  refine ⟨?_, ?_, ?_, fun i => ?_⟩
  · simp [World.cell?, h2]
  · simp [World.cell?, h2]
  · simp [World.cell?, h2]
  · simp [World.frozen?, h2]
theorem Res.set {W w : World} (h : Res W w) (x y z : Value) : Below W.heap.size W (((w.setCell ⟨W.heap.size, 0, none⟩ x).setCell ⟨W.heap.size, 1, none⟩ y).setCell ⟨W.heap.size, 2, none⟩ z) :=
  below_set (below_set (below_set h.1 (Nat.le_refl _)) (Nat.le_refl _)) (Nat.le_refl _)

theorem str_ne {A B : ByteArray} (h : ¬ A = B) : (A.toList == B.toList) = false := beq_eq_false_iff_ne.2 (fun e => h (by
  rw [ByteArray.toList_eq, ByteArray.toList_eq] at e
  exact ByteArray.ext (Array.toList_inj.1 e)))
theorem str_eq (A : ByteArray) : (A.toList == A.toList) = true := by simp

set_option maxHeartbeats 400000 in
theorem open_size (S : ByteArray) (w : World) (h : ¬ S.size = 1024) :
    Calls Tryd.prog 24 #[.string S] w fun e w' => e = .returned (.tuple #[.agg #[.int .i64 0, .int .i64 0, .string ⟨#[]⟩], .int .i64 32]) ∧ Below w.heap.size w w' := by
  have h1 : ((S.size : Int) == 1024) = false := beq_eq_false_iff_ne.2 (by omega)
  have h2 : ((S.size : Int) != 1024) = true := bne_iff_ne.2 (by omega)
  clear h
  go_enter Tryd.func24, Tryd.ntmps24
  go_wp2
  refine bodyPost_ret (v := .tuple #[.agg #[.int .i64 0, .int .i64 0, .string ⟨#[]⟩], .int .i64 32]) ?_ rfl ⟨rfl, ?_⟩
  · rw [results_cell_tmp rfl]
    go_simp
  · exact (Below.refl _ _).alloc (Nat.le_refl _) _

set_option maxRecDepth 10000 in
set_option maxHeartbeats 1000000 in
theorem open_sum (S A B : ByteArray) (w : World) (hT : Tab w) (h : S.size = 1024) (hA : S.extract 1020 1024 = A) (hB : strOf (Blk.le4 (Crc.sum (bn (S.extract 0 1020)))) = B) (hne : ¬ A = B) :
    Calls Tryd.prog 24 #[.string S] w fun e w' => e = .returned (.tuple #[.agg #[.int .i64 0, .int .i64 0, .string ⟨#[]⟩], .int .i64 40]) ∧ Below w.heap.size w w' := by
  have hs := fun w' (h' : Tab w') => sumOf_any (S.extract 0 1020) w' h' (by rw [ByteArray.size_extract]; unfold maxLen; omega)
  rw [hB] at hs
  have HS := hide hs
  have HT := hide hT
  have hq := str_ne hne
  clear hs hT hB hne
  go_enter Tryd.func24, Tryd.ntmps24
  go_wp2_with fail
  have HX := Res.new w
  generalize w.alloc (.cells #[.int .i64 0, .int .i64 0, .string ⟨#[]⟩] 33) = w1 at *
  have HX' := hide HX
  clear HX
  go_region_held3 (fun w' => Below w.heap.size w w')
    (first | exact (unhide HX').1.drew | exact (unhide H2).1)
    (first | (go_at_call 31; refine (unhide HS _ ((unhide HT).below (unhide HX').drew.1)).mono ?_; rintro e w2 ⟨rfl, hb2⟩; have H2 := hide ((unhide HX').drew.then hb2)))
  obtain ⟨c0, c1, c2, cf⟩ := (unhide H2).cells
  go_wp2
  refine bodyPost_ret (v := .tuple #[.agg #[.int .i64 0, .int .i64 0, .string ⟨#[]⟩], .int .i64 40]) ?_ rfl ⟨rfl, ?_⟩
  · rw [results_cell_tmp rfl]
    go_simp
  · exact (unhide H2).set _ _ _

set_option maxRecDepth 10000 in
set_option maxHeartbeats 1000000 in
theorem open_fits (S A : ByteArray) (T : Int × Int × ByteArray × Nat) (w : World) (hT : Tab w) (h : S.size = 1024) (hA : S.extract 1020 1024 = A) (hB : strOf (Blk.le4 (Crc.sum (bn (S.extract 0 1020)))) = A) (hR : blockR (S.extract 0 1020) = T) :
    Calls Tryd.prog 24 #[.string S] w fun e w' => e = .returned (opened T) ∧ Below w.heap.size w w' := by
  have hs := fun w' (h' : Tab w') => sumOf_any (S.extract 0 1020) w' h' (by rw [ByteArray.size_extract]; unfold maxLen; omega)
  rw [hB] at hs
  have hk := fun w' => blockOf_any (S.extract 0 1020) w' (by rw [ByteArray.size_extract]; omega)
  rw [hR] at hk
  obtain ⟨K, G, P, E⟩ := T
  have HS := hide hs
  have HK := hide hk
  have HT := hide hT
  clear hs hT hB hk hR
  go_enter Tryd.func24, Tryd.ntmps24
  go_wp2_with fail
  have HX := Res.new w
  generalize w.alloc (.cells #[.int .i64 0, .int .i64 0, .string ⟨#[]⟩] 33) = w1 at *
  have HX' := hide HX
  clear HX
  go_region_held3 (fun w' => Below w.heap.size w w')
    (first | exact (unhide HX').1.drew | exact (unhide H2).1)
    (first | (go_at_call 31; refine (unhide HS _ ((unhide HT).below (unhide HX').drew.1)).mono ?_; rintro e w2 ⟨rfl, hb2⟩; have H2 := hide ((unhide HX').drew.then hb2)))
  go_wp2_with (go_at_call 33; refine (unhide HK _).mono ?_; unfold opened; rintro e w3 ⟨rfl, hb3⟩; have H3 := hide ((unhide H2).then hb3); obtain ⟨c0, c1, c2, cf⟩ := (unhide H3).cells)
  refine bodyPost_ret (v := opened (K, G, P, E)) ?_ rfl ⟨rfl, ?_⟩
  · rw [results_cell_tmp rfl]
    go_simp
    rfl
  · exact (unhide H3).set _ _ _

theorem bn_front (s : ByteArray) (j : Nat) : bn (s.extract 0 j) = (bn s).take j := by rw [bn_extract, List.drop_zero, Nat.sub_zero]
theorem fits_iff (S : ByteArray) (h : S.size = 1024) : S.extract 1020 1024 = strOf (Blk.le4 (Crc.sum (bn (S.extract 0 1020)))) ↔ (bn S).drop 1020 = Blk.le4 (Crc.sum ((bn S).take 1020)) := by
  have e : bn (S.extract 1020 1024) = (bn S).drop 1020 := by
    have := bn_from S 1020
    rw [h] at this
    exact this
  constructor
  · intro hh
    have := congrArg bn hh
    rw [e, bn_strOf _ (Blk.le4_lt _), bn_front] at this
    exact this
  · intro hh
    apply bn_inj
    rw [e, bn_strOf _ (Blk.le4_lt _), bn_front]
    exact hh

theorem open_any (S : ByteArray) (w : World) (hT : Tab w) :
    Calls Tryd.prog 24 #[.string S] w fun e w' => e = .returned (opened (openR S)) ∧ Below w.heap.size w w' := by
  unfold openR
  by_cases h : S.size = 1024
  · rw [if_neg (fun hh => hh h)]
    by_cases hf : (bn S).drop 1020 = Blk.le4 (Crc.sum ((bn S).take 1020))
    · rw [if_neg (fun hh => hh hf)]
      exact open_fits S _ _ w hT h rfl ((fits_iff S h).2 hf).symm rfl
    · rw [if_pos hf]
      exact open_sum S _ _ w hT h rfl rfl (fun hh => hf ((fits_iff S h).1 hh))
  · rw [if_pos h]
    exact open_size S w h
end Go.Proofs.YtdkgifjmahkiaaaDoor.L4
