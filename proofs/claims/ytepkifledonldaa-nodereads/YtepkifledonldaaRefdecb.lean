/- Decode, as the document answers. -/
import Derived.Test.YtepkifledonldaaDst
import Derived.Test.YtepkifledonldaaRefenc
namespace Go.Proofs.Ytepkifledonldaa
open Go.ChangeShapes Go.WideShapes Go.ChangeAt Go.RowKit

set_option maxRecDepth 10000 in
set_option maxHeartbeats 4000000 in
theorem refDecode_bad (S : ByteArray) (w : World) (hS : S.size ≤ 4096) (h : 1007 < S.size ∨ ¬ ((byteR S 0).1 = 1 ∨ (byteR S 0).1 = 2) ∨ 1007 < (shortR (byteR S 0).2.1 (byteR S 0).2.2).1) :
    Calls Try.prog 17 #[.string S] w fun x w' => DecSaid (nd0, 60) w x w' := by
  have hle := byteR_le S 0
  have hle2 := shortR_le (byteR S 0).2.1 (byteR S 0).2.2
  have hcl := shortR_lt (byteR S 0).2.1 (byteR S 0).2.2
  have HC1 := hide (fun W G (hW : Rm W G S 0) => refByte_any G 0 S W hW (by omega))
  have HC2 := hide (fun W G (hW : Rm W G (byteR S 0).2.1 (byteR S 0).2.2) => refShortR_any G _ _ W hW (by omega))
  have hb0 := below_alloc w (.cells #[.bool false, .slice none 0 0, .slice none 0 0] 25)
  have hb1 := below_alloc (w.alloc (.cells #[.bool false, .slice none 0 0, .slice none 0 0] 25)) (.cells #[.string S, .int .i64 0] 55)
  have hsz : (w.alloc (.cells #[.bool false, .slice none 0 0, .slice none 0 0] 25)).heap.size = w.heap.size + 1 := by simp
  have hrm := Rm.new (w.alloc (.cells #[.bool false, .slice none 0 0, .slice none 0 0] 25)) S
  rw [hsz] at hrm
  have HP := hide ((Nblk.new w false none none 0 0 0 0).below hb1)
  have HR := hide hrm
  have HB := hide (below_then hb0 hb1)
  clear hb0 hb1 hsz hrm
  go_enter Try.func17, Try.ntmps17
  go_wp2_with fail
  obtain ⟨p, hp⟩ : ∃ y, y = w.heap.size := ⟨_, rfl⟩
  rw [← hp] at HP HR ⊢
  have hpw : w.heap.size ≤ p := Nat.le_of_eq hp.symm
  clear hp
  obtain ⟨g, hg⟩ : ∃ y, y = p + 1 := ⟨_, rfl⟩
  rw [← hg] at HR ⊢
  have hgw : w.heap.size ≤ g := by omega
  have hpg : p ≠ g := by omega
  clear hg
  generalize (w.alloc (.cells #[.bool false, .slice none 0 0, .slice none 0 0] 25)).alloc (.cells #[.string S, .int .i64 0] 55) = w1 at *
  refine (unhide HC1 _ g (unhide HR)).mono ?_
  rintro x w2 ⟨rfl, ht⟩
  have HP := hide ((unhide HP).toldM ht hpg)
  have HR := hide ht.2
  have HB := hide ((unhide HB).grown ht.1 (unhide HB).size (fun k hk => by injection hk with hk; omega))
  clear ht HC1
  generalize byteR S 0 = T at *
  go_wp2_with fail
  refine (unhide HC2 _ g (unhide HR)).mono ?_
  rintro x w3 ⟨rfl, ht⟩
  have HP := hide ((unhide HP).toldM ht hpg)
  have HR := hide ht.2
  have HB := hide ((unhide HB).grown ht.1 (unhide HB).size (fun k hk => by injection hk with hk; omega))
  clear ht HC2
  generalize shortR T.2.1 T.2.2 = U at *
  have c0 := (unhide HP).cell0
  have c1 := (unhide HP).cell1
  have c2 := (unhide HP).cell2
  have f0 := (unhide HP).free 0
  have f1 := (unhide HP).free 1
  have f2 := (unhide HP).free 2
  by_cases k1 : 1007 < S.size
  · clear h
    go_wp2
    refine bodyPost_ret (v := .tuple #[.agg #[.bool false, .slice none 0 0, .slice none 0 0], .int .i64 60]) ?_ rfl (dec_zero w _ _ rfl (below_store (below_store (below_store (unhide HB) p 0 _ hpw) p 1 _ hpw) p 2 _ hpw))
    rw [results_cell_tmp rfl]
    go_simp
  · by_cases k2 : (T.1 = 1 ∨ T.1 = 2)
    · have k3 : 1007 < U.1 := by omega
      have k3' : (1007 : Int) < (U.1 : Int) := by omega
      rcases k2 with k2 | k2
      · have g1 : ((T.1 : Int) == 1) = true := beq_iff_eq.2 (by omega)
        have g2 : ((T.1 : Int) != 1) = false := by rw [bne, g1]; rfl
        clear h k2 k3
        go_wp2
        refine bodyPost_ret (v := .tuple #[.agg #[.bool false, .slice none 0 0, .slice none 0 0], .int .i64 60]) ?_ rfl (dec_zero w _ _ rfl (below_store (below_store (below_store (unhide HB) p 0 _ hpw) p 1 _ hpw) p 2 _ hpw))
        rw [results_cell_tmp rfl]
        go_simp
      · have g1 : ((T.1 : Int) == 1) = false := beq_eq_false_iff_ne.2 (by omega)
        have g2 : ((T.1 : Int) != 1) = true := by rw [bne, g1]; rfl
        have g3 : ((T.1 : Int) == 2) = true := beq_iff_eq.2 (by omega)
        have g4 : ((T.1 : Int) != 2) = false := by rw [bne, g3]; rfl
        clear h k2 k3
        go_wp2
        refine bodyPost_ret (v := .tuple #[.agg #[.bool false, .slice none 0 0, .slice none 0 0], .int .i64 60]) ?_ rfl (dec_zero w _ _ rfl (below_store (below_store (below_store (unhide HB) p 0 _ hpw) p 1 _ hpw) p 2 _ hpw))
        rw [results_cell_tmp rfl]
        go_simp
    · have g1 : ((T.1 : Int) == 1) = false := beq_eq_false_iff_ne.2 (by omega)
      have g2 : ((T.1 : Int) != 1) = true := by rw [bne, g1]; rfl
      have g3 : ((T.1 : Int) == 2) = false := beq_eq_false_iff_ne.2 (by omega)
      have g4 : ((T.1 : Int) != 2) = true := by rw [bne, g3]; rfl
      clear h k2
      go_wp2
      refine bodyPost_ret (v := .tuple #[.agg #[.bool false, .slice none 0 0, .slice none 0 0], .int .i64 60]) ?_ rfl (dec_zero w _ _ rfl (below_store (below_store (below_store (unhide HB) p 0 _ hpw) p 1 _ hpw) p 2 _ hpw))
      rw [results_cell_tmp rfl]
      go_simp
end Go.Proofs.Ytepkifledonldaa
