/- Entries are copied. -/
import Derived.Test.YtepkifledonldaaOwnrow
import Derived.Test.YtepkifledonldaaClone
namespace Go.Proofs.Ytepkifledonldaa
open Go.ChangeShapes Go.WideShapes Go.ChangeAt Go.RowKit

theorem block_keep {w w' : World} {r : Nat} {o : Obj} (h : w.heap[r]? = some o) (hb : Below w.heap.size w w') : w'.heap[r]? = some o := (hb.block r (lt_of_block h)).trans h
theorem free_keep {w w' : World} {r : Nat} {a b : Value} {t : TypeId} (h : w.heap[r]? = some (.cells #[a, b] t (0, 0))) (hb : Below w.heap.size w w') (j : Nat) : w'.frozen? ⟨r, j, none⟩ = false := two_free (block_keep h hb) j

set_option maxRecDepth 10000 in
set_option maxHeartbeats 2000000 in
theorem copyItem_any (k : ByteArray) (v : ByteArray) (w : World) (hk : k.size ≤ 1000000) (hv : v.size ≤ 1000000) :
    Calls Try.prog 62 #[.agg #[.string k, .string v]] w fun e w' => e = .returned (.agg #[.string k, .string v]) ∧ Below w.heap.size w w' := by
  have T1 := hide (fun W => clone_any k W hk)
  have T2 := hide (fun W => clone_any v W hv)
  have hb0 := below_alloc w (.cells #[.string k, .string v] 47)
  have hb1 := below_alloc (w.alloc (.cells #[.string k, .string v] 47)) (.cells #[.string ⟨#[]⟩, .string ⟨#[]⟩] 47)
  have q0 := cell_keep (show (w.alloc (.cells #[.string k, .string v] 47)).cell? ⟨w.heap.size, 0, none⟩ = some (.string k) by simp) hb1
  have q1 := cell_keep (show (w.alloc (.cells #[.string k, .string v] 47)).cell? ⟨w.heap.size, 1, none⟩ = some (.string v) by simp) hb1
  have hx := heap_alloc_new (w.alloc (.cells #[.string k, .string v] 47)) (.cells #[.string ⟨#[]⟩, .string ⟨#[]⟩] 47)
  have hsz : (w.alloc (.cells #[.string k, .string v] 47)).heap.size = w.heap.size + 1 := by simp
  rw [hsz] at hx
  have HB := hide (below_then hb0 hb1)
  clear hb0 hb1 hsz
  go_enter Try.func62, Try.ntmps62
  go_wp2_with fail
  obtain ⟨p, hp⟩ : ∃ y, y = w.heap.size := ⟨_, rfl⟩
  rw [← hp] at q0 q1 hx ⊢
  have hpw : w.heap.size ≤ p := Nat.le_of_eq hp.symm
  clear hp
  obtain ⟨r, hr⟩ : ∃ y, y = p + 1 := ⟨_, rfl⟩
  rw [← hr] at hx ⊢
  have hrp : p ≠ r := by omega
  have hrw : w.heap.size ≤ r := by omega
  clear hr
  generalize (w.alloc (.cells #[.string k, .string v] 47)).alloc (.cells #[.string ⟨#[]⟩, .string ⟨#[]⟩] 47) = w1 at *
  have HX : Hid (w1.drew.heap[r]? = some (.cells #[.string ⟨#[]⟩, .string ⟨#[]⟩] 47 (0, 0))) := hx
  have x0 : w1.drew.cell? ⟨r, 0, none⟩ = some (.string ⟨#[]⟩) := two_cell0 hx
  have x1 : w1.drew.cell? ⟨r, 1, none⟩ = some (.string ⟨#[]⟩) := two_cell1 hx
  have KP : Hid (∀ wa wb, (Below w.heap.size w wa ∧ wa.cell? ⟨p, 0, none⟩ = some (.string k) ∧ wa.cell? ⟨p, 1, none⟩ = some (.string v)) → Below wa.heap.size wa wb → (Below w.heap.size w wb ∧ wb.cell? ⟨p, 0, none⟩ = some (.string k) ∧ wb.cell? ⟨p, 1, none⟩ = some (.string v))) := fun wa wb h hb => ⟨below_then h.1 hb, cell_keep h.2.1 hb, cell_keep h.2.2 hb⟩
  have KS : Hid (∀ wa a b, (Below w.heap.size w wa ∧ wa.cell? ⟨p, 0, none⟩ = some (.string k) ∧ wa.cell? ⟨p, 1, none⟩ = some (.string v)) → (Below w.heap.size w ((wa.setCell ⟨r, 0, none⟩ a).setCell ⟨r, 1, none⟩ b) ∧ ((wa.setCell ⟨r, 0, none⟩ a).setCell ⟨r, 1, none⟩ b).cell? ⟨p, 0, none⟩ = some (.string k) ∧ ((wa.setCell ⟨r, 0, none⟩ a).setCell ⟨r, 1, none⟩ b).cell? ⟨p, 1, none⟩ = some (.string v))) := fun wa a b h =>
    ⟨(h.1.setCell hrw a).setCell hrw b, (World.cell?_of_block ((Below.heap_setCell _ ⟨r, 1, none⟩ b p hrp).trans (Below.heap_setCell wa ⟨r, 0, none⟩ a p hrp))).trans h.2.1, (World.cell?_of_block ((Below.heap_setCell _ ⟨r, 1, none⟩ b p hrp).trans (Below.heap_setCell wa ⟨r, 0, none⟩ a p hrp))).trans h.2.2⟩
  have H0 : Hid (Below w.heap.size w w1.drew ∧ w1.drew.cell? ⟨p, 0, none⟩ = some (.string k) ∧ w1.drew.cell? ⟨p, 1, none⟩ = some (.string v)) := ⟨(unhide HB).drew, q0, q1⟩
  clear q0 q1 hx
  go_region_held3 (fun w' => Below w.heap.size w w' ∧ w'.cell? ⟨p, 0, none⟩ = some (.string k) ∧ w'.cell? ⟨p, 1, none⟩ = some (.string v))
    (first | assumption | exact unhide H0 | exact unhide KS _ _ _ H2)
    (first
      | (go_at_call 72; refine (unhide T1 _).mono ?_; rintro e w2 ⟨rfl, hb⟩; have H1 := unhide KP _ _ (unhide H0) hb; have y0 := cell_keep x0 hb; have y1 := cell_keep x1 hb; have fy0 := free_keep (unhide HX) hb 0; have fy1 := free_keep (unhide HX) hb 1; have HX1 := hide (block_keep (unhide HX) hb); clear hb T1)
      | (go_at_call 72; refine (unhide T2 _).mono ?_; rintro e w3 ⟨rfl, hb⟩; have H2 := unhide KP _ _ H1 hb; have z0 := cell_keep y0 hb; have z1 := cell_keep y1 hb; have fz0 := free_keep (unhide HX1) hb 0; have fz1 := free_keep (unhide HX1) hb 1; clear hb))
  have HF := hide H2.1
  go_wp2
  refine bodyPost_ret (v := .agg #[.string k, .string v]) ?_ rfl ⟨rfl, ((unhide HF).setCell hrw _).setCell hrw _⟩
  rw [results_cell1 rfl]
  go_simp

set_option maxRecDepth 10000 in
set_option maxHeartbeats 2000000 in
theorem copyKid_any (k : ByteArray) (v : Int) (w : World) (hk : k.size ≤ 1000000) :
    Calls Try.prog 65 #[.agg #[.string k, .int .i64 v]] w fun e w' => e = .returned (.agg #[.string k, .int .i64 v]) ∧ Below w.heap.size w w' := by
  have T1 := hide (fun W => clone_any k W hk)
  skip
  have hb0 := below_alloc w (.cells #[.string k, .int .i64 v] 49)
  have hb1 := below_alloc (w.alloc (.cells #[.string k, .int .i64 v] 49)) (.cells #[.string ⟨#[]⟩, .int .i64 0] 49)
  have q0 := cell_keep (show (w.alloc (.cells #[.string k, .int .i64 v] 49)).cell? ⟨w.heap.size, 0, none⟩ = some (.string k) by simp) hb1
  have q1 := cell_keep (show (w.alloc (.cells #[.string k, .int .i64 v] 49)).cell? ⟨w.heap.size, 1, none⟩ = some (.int .i64 v) by simp) hb1
  have hx := heap_alloc_new (w.alloc (.cells #[.string k, .int .i64 v] 49)) (.cells #[.string ⟨#[]⟩, .int .i64 0] 49)
  have hsz : (w.alloc (.cells #[.string k, .int .i64 v] 49)).heap.size = w.heap.size + 1 := by simp
  rw [hsz] at hx
  have HB := hide (below_then hb0 hb1)
  clear hb0 hb1 hsz
  go_enter Try.func65, Try.ntmps65
  go_wp2_with fail
  obtain ⟨p, hp⟩ : ∃ y, y = w.heap.size := ⟨_, rfl⟩
  rw [← hp] at q0 q1 hx ⊢
  have hpw : w.heap.size ≤ p := Nat.le_of_eq hp.symm
  clear hp
  obtain ⟨r, hr⟩ : ∃ y, y = p + 1 := ⟨_, rfl⟩
  rw [← hr] at hx ⊢
  have hrp : p ≠ r := by omega
  have hrw : w.heap.size ≤ r := by omega
  clear hr
  generalize (w.alloc (.cells #[.string k, .int .i64 v] 49)).alloc (.cells #[.string ⟨#[]⟩, .int .i64 0] 49) = w1 at *
  have HX : Hid (w1.drew.heap[r]? = some (.cells #[.string ⟨#[]⟩, .int .i64 0] 49 (0, 0))) := hx
  have x0 : w1.drew.cell? ⟨r, 0, none⟩ = some (.string ⟨#[]⟩) := two_cell0 hx
  have x1 : w1.drew.cell? ⟨r, 1, none⟩ = some (.int .i64 0) := two_cell1 hx
  have KP : Hid (∀ wa wb, (Below w.heap.size w wa ∧ wa.cell? ⟨p, 0, none⟩ = some (.string k) ∧ wa.cell? ⟨p, 1, none⟩ = some (.int .i64 v)) → Below wa.heap.size wa wb → (Below w.heap.size w wb ∧ wb.cell? ⟨p, 0, none⟩ = some (.string k) ∧ wb.cell? ⟨p, 1, none⟩ = some (.int .i64 v))) := fun wa wb h hb => ⟨below_then h.1 hb, cell_keep h.2.1 hb, cell_keep h.2.2 hb⟩
  have KS : Hid (∀ wa a b, (Below w.heap.size w wa ∧ wa.cell? ⟨p, 0, none⟩ = some (.string k) ∧ wa.cell? ⟨p, 1, none⟩ = some (.int .i64 v)) → (Below w.heap.size w ((wa.setCell ⟨r, 0, none⟩ a).setCell ⟨r, 1, none⟩ b) ∧ ((wa.setCell ⟨r, 0, none⟩ a).setCell ⟨r, 1, none⟩ b).cell? ⟨p, 0, none⟩ = some (.string k) ∧ ((wa.setCell ⟨r, 0, none⟩ a).setCell ⟨r, 1, none⟩ b).cell? ⟨p, 1, none⟩ = some (.int .i64 v))) := fun wa a b h =>
    ⟨(h.1.setCell hrw a).setCell hrw b, (World.cell?_of_block ((Below.heap_setCell _ ⟨r, 1, none⟩ b p hrp).trans (Below.heap_setCell wa ⟨r, 0, none⟩ a p hrp))).trans h.2.1, (World.cell?_of_block ((Below.heap_setCell _ ⟨r, 1, none⟩ b p hrp).trans (Below.heap_setCell wa ⟨r, 0, none⟩ a p hrp))).trans h.2.2⟩
  have H0 : Hid (Below w.heap.size w w1.drew ∧ w1.drew.cell? ⟨p, 0, none⟩ = some (.string k) ∧ w1.drew.cell? ⟨p, 1, none⟩ = some (.int .i64 v)) := ⟨(unhide HB).drew, q0, q1⟩
  clear q0 q1 hx
  go_region_held3 (fun w' => Below w.heap.size w w' ∧ w'.cell? ⟨p, 0, none⟩ = some (.string k) ∧ w'.cell? ⟨p, 1, none⟩ = some (.int .i64 v))
    (first | assumption | exact unhide H0 | exact unhide KS _ _ _ H1)
    (first
      | (go_at_call 72; refine (unhide T1 _).mono ?_; rintro e w2 ⟨rfl, hb⟩; have H1 := unhide KP _ _ (unhide H0) hb; have y0 := cell_keep x0 hb; have y1 := cell_keep x1 hb; have fy0 := free_keep (unhide HX) hb 0; have fy1 := free_keep (unhide HX) hb 1; have HX1 := hide (block_keep (unhide HX) hb); clear hb T1)
      )
  have HF := hide H1.1
  go_wp2
  refine bodyPost_ret (v := .agg #[.string k, .int .i64 v]) ?_ rfl ⟨rfl, ((unhide HF).setCell hrw _).setCell hrw _⟩
  rw [results_cell1 rfl]
  go_simp
end Go.Proofs.Ytepkifledonldaa
