/- A piece whose bytes between two places are zeros. -/
import Derived.Test.YtmpgaecnibakdaaDoorLa
namespace Go.Proofs.YtmpgaecnibakdaaDoor
open Go.ChangeShapes Go.WideShapes Go.ChangeAt Go.RowKit
attribute [local go_sem] Oper.semAt_some

theorem free_of {w : World} {b : Nat} {c : Array Value} {t : TypeId} (h : w.heap[b]? = some (.cells c t (0, 0))) (j : Nat) : w.frozen? ⟨b, j, none⟩ = false := by simp [World.frozen?, h]
theorem lt_heap {w : World} {b : Nat} {o : Obj} (h : w.heap[b]? = some o) : b < w.heap.size := (Array.getElem?_eq_some_iff.1 h).1
set_option maxHeartbeats 4000000 in
set_option maxRecDepth 10000 in
theorem wiped_any (ix : Int) (da : List UInt8) (from' to : Int) (w : World) (h0 : 0 ≤ ix) (h1 : ix ≤ 72057594037927936) (hf : 0 ≤ from') (hft : from' ≤ to) (ht : to ≤ 4611686018427387904) :
    Calls Tryd.prog 37 #[.agg #[.int .i64 ix, .string (tx da)], .int .i64 from', .int .i64 to] w fun e w' => e = .returned (.agg #[.int .i64 ix, .string (tx (wipB ix da from' to))]) ∧ Below w.heap.size w w' := by
  have b1 := b_alloc w (.cells #[.int .i64 ix, .string (tx da)] 58)
  have n1 := heap_alloc_new w (.cells #[.int .i64 ix, .string (tx da)] 58)
  have z1 : (w.alloc (.cells #[.int .i64 ix, .string (tx da)] 58)).heap.size = w.heap.size + 1 := by simp
  have z1' := z1
  have b2 := b_alloc (w.alloc (.cells #[.int .i64 ix, .string (tx da)] 58)) (.cells #[.int .i64 0, .string ⟨#[]⟩] 58)
  have n2 := heap_alloc_new (w.alloc (.cells #[.int .i64 ix, .string (tx da)] 58)) (.cells #[.int .i64 0, .string ⟨#[]⟩] 58)
  have z2 : ((w.alloc (.cells #[.int .i64 ix, .string (tx da)] 58)).alloc (.cells #[.int .i64 0, .string ⟨#[]⟩] 58)).heap.size = w.heap.size + 1 + 1 := by simp
  have b12 := below_then b1 b2
  have m1 := (b2.block w.heap.size (by omega)).trans n1
  generalize hW : (w.alloc (.cells #[.int .i64 ix, .string (tx da)] 58)).alloc (.cells #[.int .i64 0, .string ⟨#[]⟩] 58) = w2 at *
  have k3 := bk_new w2
  have b3 := b_alloc w2 (.cells #[.int .u8 0, .int .u8 0, .int .u8 0, .int .u8 0, .int .u8 0, .int .u8 0, .int .u8 0, .int .u8 0, .int .u8 0, .int .u8 0, .int .u8 0, .int .u8 0, .int .u8 0, .int .u8 0, .int .u8 0, .int .u8 0, .int .u8 0, .int .u8 0, .int .u8 0, .int .u8 0, .int .u8 0, .int .u8 0, .int .u8 0, .int .u8 0, .int .u8 0, .int .u8 0, .int .u8 0, .int .u8 0, .int .u8 0, .int .u8 0, .int .u8 0, .int .u8 0, .int .u8 0, .int .u8 0, .int .u8 0, .int .u8 0, .int .u8 0, .int .u8 0, .int .u8 0, .int .u8 0, .int .u8 0, .int .u8 0, .int .u8 0, .int .u8 0, .int .u8 0, .int .u8 0, .int .u8 0, .int .u8 0, .int .u8 0, .int .u8 0, .int .u8 0, .int .u8 0, .int .u8 0, .int .u8 0, .int .u8 0, .int .u8 0, .int .u8 0, .int .u8 0, .int .u8 0, .int .u8 0, .int .u8 0, .int .u8 0, .int .u8 0, .int .u8 0] 69)
  have b123 := below_then b12 b3
  have m2 := (b3.block (w.heap.size + 1) (by omega)).trans (z1 ▸ n2)
  have m1' := (b3.block w.heap.size (by omega)).trans m1
  rw [z2] at k3
  have hrun := fun ty => run_copy_bk (w2.alloc (.cells #[.int .u8 0, .int .u8 0, .int .u8 0, .int .u8 0, .int .u8 0, .int .u8 0, .int .u8 0, .int .u8 0, .int .u8 0, .int .u8 0, .int .u8 0, .int .u8 0, .int .u8 0, .int .u8 0, .int .u8 0, .int .u8 0, .int .u8 0, .int .u8 0, .int .u8 0, .int .u8 0, .int .u8 0, .int .u8 0, .int .u8 0, .int .u8 0, .int .u8 0, .int .u8 0, .int .u8 0, .int .u8 0, .int .u8 0, .int .u8 0, .int .u8 0, .int .u8 0, .int .u8 0, .int .u8 0, .int .u8 0, .int .u8 0, .int .u8 0, .int .u8 0, .int .u8 0, .int .u8 0, .int .u8 0, .int .u8 0, .int .u8 0, .int .u8 0, .int .u8 0, .int .u8 0, .int .u8 0, .int .u8 0, .int .u8 0, .int .u8 0, .int .u8 0, .int .u8 0, .int .u8 0, .int .u8 0, .int .u8 0, .int .u8 0, .int .u8 0, .int .u8 0, .int .u8 0, .int .u8 0, .int .u8 0, .int .u8 0, .int .u8 0, .int .u8 0] 69)).drew ty (w.heap.size + 1 + 1) 69 (List.replicate 64 0) k3 0 64 64 rfl (tx da)
  generalize hW3 : w2.alloc (.cells #[.int .u8 0, .int .u8 0, .int .u8 0, .int .u8 0, .int .u8 0, .int .u8 0, .int .u8 0, .int .u8 0, .int .u8 0, .int .u8 0, .int .u8 0, .int .u8 0, .int .u8 0, .int .u8 0, .int .u8 0, .int .u8 0, .int .u8 0, .int .u8 0, .int .u8 0, .int .u8 0, .int .u8 0, .int .u8 0, .int .u8 0, .int .u8 0, .int .u8 0, .int .u8 0, .int .u8 0, .int .u8 0, .int .u8 0, .int .u8 0, .int .u8 0, .int .u8 0, .int .u8 0, .int .u8 0, .int .u8 0, .int .u8 0, .int .u8 0, .int .u8 0, .int .u8 0, .int .u8 0, .int .u8 0, .int .u8 0, .int .u8 0, .int .u8 0, .int .u8 0, .int .u8 0, .int .u8 0, .int .u8 0, .int .u8 0, .int .u8 0, .int .u8 0, .int .u8 0, .int .u8 0, .int .u8 0, .int .u8 0, .int .u8 0, .int .u8 0, .int .u8 0, .int .u8 0, .int .u8 0, .int .u8 0, .int .u8 0, .int .u8 0, .int .u8 0] 69) = w3 at *
  have k4 := (Bk.put (show Bk w3.drew (w.heap.size + 1 + 1) 69 (List.replicate 64 0) from k3) (List.take 0 (List.replicate 64 0) ++ cpy (List.drop 0 (List.replicate 64 0)) (bs (tx da))))
  have p1 : (putB w3.drew (w.heap.size + 1 + 1) (List.take 0 (List.replicate 64 0) ++ cpy (List.drop 0 (List.replicate 64 0)) (bs (tx da)))).heap[w.heap.size]? = _ := (putB_other (by omega) _).trans m1'
  have p2 : (putB w3.drew (w.heap.size + 1 + 1) (List.take 0 (List.replicate 64 0) ++ cpy (List.drop 0 (List.replicate 64 0)) (bs (tx da)))).heap[w.heap.size + 1]? = _ := (putB_other (by omega) _).trans m2
  have pb := putB_below (b123.drew) (show w.heap.size ≤ w.heap.size + 1 + 1 by omega) (List.take 0 (List.replicate 64 0) ++ cpy (List.drop 0 (List.replicate 64 0)) (bs (tx da)))
  rw [bs_tx, List.take_zero, List.nil_append, List.drop_zero] at k4 p1 p2 pb hrun
  have c0 : w3.cell? ⟨w.heap.size, 0, none⟩ = some (.int .i64 ix) := by simp [World.cell?, m1']
  have c1 : w3.cell? ⟨w.heap.size, 1, none⟩ = some (.string (tx da)) := by simp [World.cell?, m1']
  generalize putB w3.drew (w.heap.size + 1 + 1) (cpy (List.replicate 64 0) da) = w5 at *
  obtain ⟨p, hp⟩ : ∃ y, y = w.heap.size := ⟨_, rfl⟩
  rw [← hp] at k4 p1 p2 hrun c0 c1
  have hpw : w.heap.size ≤ p := Nat.le_of_eq hp.symm
  have d0 : w5.drew.cell? ⟨p, 0, none⟩ = some (.int .i64 ix) := (cell_of_row w5 p 0 _ _ _ p1).trans rfl
  have d1 : w5.drew.cell? ⟨p, 1, none⟩ = some (.string (tx da)) := (cell_of_row w5 p 1 _ _ _ p1).trans rfl
  have HR := hide (show Bk w5.drew (p + 1 + 1) 69 (cpy (List.replicate 64 0) da) from k4)
  have HX := hide (show w5.drew.heap[p + 1]? = _ from p2)
  have H0 : Hid (Below w.heap.size w w5.drew ∧ w5.drew.cell? ⟨p, 0, none⟩ = some (.int .i64 ix) ∧ w5.drew.cell? ⟨p, 1, none⟩ = some (.string (tx da))) := ⟨pb.drew, d0, d1⟩
  have KP : Hid (∀ wa wb, (Below w.heap.size w wa ∧ wa.cell? ⟨p, 0, none⟩ = some (.int .i64 ix) ∧ wa.cell? ⟨p, 1, none⟩ = some (.string (tx da))) → Below wa.heap.size wa wb → (Below w.heap.size w wb ∧ wb.cell? ⟨p, 0, none⟩ = some (.int .i64 ix) ∧ wb.cell? ⟨p, 1, none⟩ = some (.string (tx da)))) := fun wa wb h hb => ⟨below_then h.1 hb, cell_keep h.2.1 hb, cell_keep h.2.2 hb⟩
  have KC : Hid (∀ wa l, (Below w.heap.size w wa ∧ wa.cell? ⟨p, 0, none⟩ = some (.int .i64 ix) ∧ wa.cell? ⟨p, 1, none⟩ = some (.string (tx da))) → (Below w.heap.size w (putB wa (p + 1 + 1) l) ∧ (putB wa (p + 1 + 1) l).cell? ⟨p, 0, none⟩ = some (.int .i64 ix) ∧ (putB wa (p + 1 + 1) l).cell? ⟨p, 1, none⟩ = some (.string (tx da)))) := fun wa l h =>
    ⟨putB_below h.1 (by omega) l, (World.cell?_of_block (putB_other (by show p ≠ p + 1 + 1; omega) l)).trans h.2.1, (World.cell?_of_block (putB_other (by show p ≠ p + 1 + 1; omega) l)).trans h.2.2⟩
  have T1 := hide (fun W => inside_any ix (tx da) from' W h0 h1 hf (by omega))
  have T2 := hide (fun W => inside_any ix (tx da) to W h0 h1 (by omega) (by omega))
  have i1 : insI ix from' ≤ insI ix to := ins_mono hft
  have i2 := ins_le64 ix to
  have HF := hide (fun (W : World) (hW : Bk W (p + 1 + 1) 69 (cpy (List.replicate 64 0) da)) (ty : TypeId) => run_clear_bk W ty (p + 1 + 1) 69 (cpy (List.replicate 64 0) da) hW (insI ix from') (insI ix to - insI ix from') (64 - insI ix from') (by rw [cpy_length, List.length_replicate]; omega) (some (if 64 = insI ix from' then ⟨p + 1 + 1, 0, none⟩ else ⟨p + 1 + 1, insI ix from', none⟩)) (fun hh => by rw [if_neg (by omega)]))
  have HWB : Hid (wipB ix da from' to = (cpy (List.replicate 64 0) da).take (insI ix from') ++ List.replicate (insI ix to - insI ix from') 0 ++ (cpy (List.replicate 64 0) da).drop (insI ix from' + (insI ix to - insI ix from'))) := by
    show _ = _
    rw [show insI ix from' + (insI ix to - insI ix from') = insI ix to by omega]
    rfl
  generalize insI ix from' = f at *
  generalize insI ix to = t at *
  rw [show (64 : Nat) = 64 from rfl] at HF
  have HBL := hide (cpy_length (List.replicate 64 0) da)
  generalize cpy (List.replicate 64 0) da = Z at *
  have hZs : Z.length = 64 := by have := unhide HBL; rw [List.length_replicate] at this; exact this
  clear HBL
  obtain ⟨LAM, hLAM⟩ : ∃ L, L = Z.take f ++ List.replicate (t - f) 0 ++ Z.drop (f + (t - f)) := ⟨_, rfl⟩
  rw [← hLAM] at HF HWB
  have hlen : LAM.length = 64 := by rw [hLAM, List.length_append, List.length_append, List.length_take, List.length_drop, List.length_replicate]; omega
  clear hLAM
  clear k3 k4 p1 p2 pb b123 b12 b1 b2 b3 n1 n2 z1 z1' m1 m1' m2
  rw [unhide HWB]
  clear HWB
  go_enter Tryd.func37, Tryd.ntmps37
  rw [hp] at hrun c0 c1
  go_wp2
  go_region
  rw [← hp]
  have j0 : (0 : Int) ≤ (f : Int) := by omega
  have j1 : (f : Int) ≤ (t : Int) := by omega
  have j2 : (t : Int) ≤ (64 : Int) := by omega
  clear hp hW hW3 hrun c0 c1 z2
  go_wp2
  go_region_held3 (fun w' => Below w.heap.size w w' ∧ w'.cell? ⟨p, 0, none⟩ = some (.int .i64 ix) ∧ w'.cell? ⟨p, 1, none⟩ = some (.string (tx da)))
    (first | (with_reducible assumption) | (with_reducible exact unhide H0) | (with_reducible exact unhide KC _ _ H2))
    (first
      | (go_at_call 35; with_reducible refine (unhide T1 _).mono ?_; rintro e w6 ⟨rfl, hb⟩; have H1 := unhide KP _ _ (unhide H0) hb; have HR1 := hide ((unhide HR).below hb); have HX1 := hide ((hb.block _ (lt_heap (unhide HX))).trans (unhide HX)); clear hb T1)
      | (go_at_call 35; with_reducible refine (unhide T2 _).mono ?_; rintro e w7 ⟨rfl, hb⟩; have H2 := unhide KP _ _ H1 hb; have HR2 := hide ((unhide HR1).below hb); have hr7 := unhide HF _ (unhide HR2); have HX2 := hide ((hb.block _ (lt_heap (unhide HX1))).trans (unhide HX1)); clear hb))
  have H3 := unhide KC _ LAM H2
  have HR3 := Bk.put (unhide HR2) LAM
  have HX3 := (putB_other (w := w7) (b := p + 1 + 1) (k := p + 1) (by omega) LAM).trans (unhide HX2)
  generalize putB w7 (p + 1 + 1) LAM = w8 at *
  have x0 : w8.drew.cell? ⟨p + 1, 0, none⟩ = some (.int .i64 0) := (cell_of_row w8 (p + 1) 0 _ _ _ HX3).trans rfl
  have x1 : w8.drew.cell? ⟨p + 1, 1, none⟩ = some (.string ⟨#[]⟩) := (cell_of_row w8 (p + 1) 1 _ _ _ HX3).trans rfl
  have f0 : w8.drew.frozen? ⟨p + 1, 0, none⟩ = false := free_of (w := w8.drew) HX3 0
  have f1 : w8.drew.frozen? ⟨p + 1, 1, none⟩ = false := free_of (w := w8.drew) HX3 1
  have x0' : w8.cell? ⟨p + 1, 0, none⟩ = some (.int .i64 0) := x0
  have x1' : w8.cell? ⟨p + 1, 1, none⟩ = some (.string ⟨#[]⟩) := x1
  have f1' : w8.frozen? ⟨p + 1, 1, none⟩ = false := f1
  have hconv := conv_bk w8.drew (p + 1 + 1) 69 LAM HR3 64
  rw [hlen] at hconv
  have y0 : w8.drew.cell? ⟨p, 0, none⟩ = some (.int .i64 ix) := H3.2.1
  have HB := hide H3.1
  have hpp : p ≠ p + 1 := by omega
  have hwp : w.heap.size ≤ p + 1 := by omega
  clear H3 HR3 HX3 hr7 H2 HR2 HX2 HX1 HR1 H1 HF KC KP H0 HX d0 d1 T2 HR
  generalize (some (if 64 = f then (⟨p + 1 + 1, 0, none⟩ : Addr) else ⟨p + 1 + 1, f, none⟩)) = AD
  go_wp2
  go_region
  go_wp2
  refine bodyPost_ret (v := .agg #[.int .i64 ix, .string (tx LAM)]) ?_ rfl ⟨rfl, ((unhide HB).drew.setCell hwp _).setCell hwp _⟩
  rw [results_cell1 rfl]
  go_simp
end Go.Proofs.YtmpgaecnibakdaaDoor
