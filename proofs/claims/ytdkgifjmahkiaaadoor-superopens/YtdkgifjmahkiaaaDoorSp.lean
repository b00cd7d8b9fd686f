/- Open, whatever text there is; and the document's Open. -/
import Derived.Test.YtdkgifjmahkiaaaDoorSo
import Derived.Test.YtdkgifjmahkiaaaDoorL4Refopen
namespace Go.Proofs.YtdkgifjmahkiaaaDoor
open Go.ChangeShapes Go.WideShapes Go.ChangeAt Go.RowKit
open L4

set_option maxRecDepth 10000 in
set_option maxHeartbeats 1000000 in
theorem sopen_err (t : ByteArray) (K G : Int) (P : ByteArray) (E : Nat) (w : World) (hT : Tab w) (ho : openR t = (K, G, P, E)) (hE : E ≠ 0) :
    Calls Tryd.prog 14 #[.string t] w fun e w' => e = .returned (sopened (0, 0, 0, E)) ∧ Below w.heap.size w w' := by
  have h1 := fun W (hW : Tab W) => open_any t W hW
  rw [ho] at h1
  have H1 := hide h1
  have HT := hide hT
  have e1 : ((E : Int) == 0) = false := beq_eq_false_iff_ne.2 (by omega)
  have e2 : ((E : Int) != 0) = true := bne_iff_ne.2 (by omega)
  clear h1 hT ho hE
  go_enter Tryd.func14, Tryd.ntmps14
  go_wp2_with fail
  have HB0 := hide (b_alloc w (.cells #[.int .i64 0, .int .i64 0, .int .i64 0] 23))
  have HX0 := hide (Bk.new w (.int .i64 0) (.int .i64 0) (.int .i64 0) 23)
  generalize w.alloc (.cells #[.int .i64 0, .int .i64 0, .int .i64 0] 23) = w0 at *
  refine (unhide H1 _ ((unhide HT).below (unhide HB0))).mono ?_
  unfold opened
  rintro e w1 ⟨rfl, hb⟩
  have HB1 := hide (below_then (unhide HB0) (below_then hb (b_alloc w1 (.cells #[.int .i64 K, .int .i64 G, .string P] 33))))
  obtain ⟨d0, d1, d2, df⟩ := (((unhide HX0).then hb).then (b_alloc w1 (.cells #[.int .i64 K, .int .i64 G, .string P] 33))).cells
  clear hb HB0 HX0
  go_wp2
  refine bodyPost_ret (v := sopened (0, 0, 0, E)) ?_ rfl ⟨rfl, ?_⟩
  · rw [results_cell_tmp rfl]
    go_simp <;> rfl
  · exact below_set (below_set (below_set (unhide HB1) (Nat.le_refl _)) (Nat.le_refl _)) (Nat.le_refl _)

theorem sblkR_eq {K G : Int} {P : ByteArray} (hm : MayB (sg P) (sr P) (ss P)) (hP : P = spay (sr P).toNat (ss P).toNat (sg P).toNat) (hK : K = 9) (hG : G = sg P) : sblkR K G P = (sg P, sr P, ss P, 0) := by
  obtain ⟨h1, h2, h3⟩ := isSup_of hm hK hG hP
  rw [sblkR_ok h1, h2, h3, hG]
theorem sopen_any (t : ByteArray) (w : World) (hT : Tab w) :
    Calls Tryd.prog 14 #[.string t] w fun e w' => e = .returned (sopened (sopenR t)) ∧ Below w.heap.size w w' := by
  have hp := openR_pay (t := t)
  unfold sopenR
  generalize ho : openR t = T at *
  obtain ⟨K, G, P, E⟩ := T
  show Calls Tryd.prog 14 #[.string t] w fun e w' => e = .returned (sopened (if E ≠ 0 then (0, 0, 0, E) else sblkR K G P)) ∧ Below w.heap.size w w'
  by_cases hE : E ≠ 0
  · rw [if_pos hE]
    exact sopen_err t K G P E w hT ho hE
  · obtain rfl : E = 0 := by omega
    rw [if_neg hE]
    have hp' : P.size ≤ 1007 := hp rfl
    by_cases hm : MayB (sg P) (sr P) (ss P)
    · by_cases hK : K = 9
      · by_cases hG : G = sg P
        · by_cases hP : P = spay (sr P).toNat (ss P).toNat (sg P).toNat
          · rw [sblkR_eq hm hP hK hG]
            exact sopen_yes t K G P w hT ho hp' _ _ _ rfl rfl rfl hm hP hK hG
          · rw [sblkR_no (fun h => hP (of_isSup h).2.2.2)]
            exact sopen_p t K G P w hT ho hp' _ _ _ rfl rfl rfl hm hP hK hG
        · rw [sblkR_no (fun h => hG (of_isSup h).2.2.1)]
          exact sopen_g t K G P w hT ho hp' _ _ _ rfl rfl rfl hm hG hK
      · rw [sblkR_no (fun h => hK (of_isSup h).2.1)]
        exact sopen_k t K G P w hT ho hp' _ _ _ rfl rfl rfl hm hK
    · rw [sblkR_no (fun h => hm (of_isSup h).1)]
      exact sopen_no t K G P w hT ho hp' _ _ _ rfl rfl rfl hm
end Go.Proofs.YtdkgifjmahkiaaaDoor
