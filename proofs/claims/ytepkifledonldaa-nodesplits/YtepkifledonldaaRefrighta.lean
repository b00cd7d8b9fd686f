/- Whether a node is right, as the document tells it. -/
import Derived.Test.YtepkifledonldaaIsright
import Derived.Deep.QuietTactic
import Derived.BigQuiet
namespace Go.Proofs.Ytepkifledonldaa
open Go.ChangeShapes Go.WideShapes Go.ChangeAt Go.RowKit

theorem below_an (w : World) (o : Obj) (m : Nat) : Below w.heap.size w (World.drewN (w.alloc o) m) := below_drewN (below_alloc w o) m

set_option maxRecDepth 10000 in
set_option maxHeartbeats 8000000 in
theorem refRightI (ai ak : Option Addr) (ci ck : Nat) (its : List It) (w : World) (hr : Row Value.string w ai its) (hl : its.length ≤ 1000000) (hp : 0 < its.length) :
    Calls Try.prog 25 #[.agg #[.bool true, .slice ai its.length ci, .slice ak 0 ck]] w fun e w' => e = .returned (.bool (rise mayI none its)) ∧ Below w.heap.size w w' := by
  have e0 : ((its.length : Int) == 0) = false := beq_eq_false_iff_ne.2 (by omega)
  have hb0 := below_alloc w (.cells #[.bool true, .slice ai its.length ci, .slice ak 0 ck] 25)
  have HR := hide (hr.grow hb0)
  have HBW := hide hb0
  clear hr hb0
  go_enter Try.func25, Try.ntmps25
  go_wp2
  have q1 : (w.alloc (.cells #[.bool true, .slice ai its.length ci, .slice ak 0 ck] 25)).cell? ⟨w.heap.size, 1, none⟩ = some (.slice ai its.length ci) := by simp
  have q2 : (w.alloc (.cells #[.bool true, .slice ai its.length ci, .slice ak 0 ck] 25)).cell? ⟨w.heap.size, 2, none⟩ = some (.slice ak 0 ck) := by simp
  obtain ⟨p, hp'⟩ : ∃ y, y = w.heap.size := ⟨_, rfl⟩
  rw [← hp'] at q1 q2 ⊢
  clear hp'
  generalize w.alloc (.cells #[.bool true, .slice ai its.length ci, .slice ak 0 ck] 25) = w0 at *
  go_loopw [3] (fun t wr => ∃ k : Nat, k ≤ its.length ∧ t = .int .i64 k ∧ Upto mayI its k ∧ wr.cell? ⟨p, 1, none⟩ = some (.slice ai its.length ci) ∧ wr.cell? ⟨p, 2, none⟩ = some (.slice ak 0 ck) ∧ Below w0.heap.size w0 wr ∧ Below w.heap.size w wr) (fun t _ => its.length - (intOf t).toNat)
  case atStart => exact ⟨0, Nat.zero_le _, rfl, Upto.start _ _, q1, q2, Below.refl _ _, unhide HBW⟩
  case round =>
    obtain ⟨k, hk, rfl, hu, q1, q2, hbel0, hbel⟩ := hrel
    have HU := hide hu
    have HBel := hide hbel
    have HBel0 := hide hbel0
    clear hu hbel hbel0
    by_cases hlt : k < its.length
    · obtain ⟨b, off, rfl, hr⟩ := (unhide HR).at hlt
      obtain ⟨⟨key, val⟩, hx⟩ := get_some hlt
      have c0 := cell_keep_of (unhide HBel0) (hr k _ hx).1
      have c1 := cell_keep_of (unhide HBel0) (hr k _ hx).2
      simp only at c0 c1
      have HX := hide hx
      have HROW := hide hr
      clear hx hr HR
      by_cases k0 : 0 < key.size
      · have f0 := full_of' k0
        by_cases k1 : key.size ≤ 272
        · have f1 : decide ((272 : Int) < (key.size : Int)) = false := decide_eq_false (by omega)
          by_cases k2 : val.size ≤ 160
          · have f2 : decide ((160 : Int) < (val.size : Int)) = false := decide_eq_false (by omega)
            have HMX := hide (show mayI (key, val) = true by simp [mayI, k0, k1, k2])
            by_cases h0 : k = 0
            · subst h0
              rw [Nat.zero_mul, Nat.add_zero] at c0 c1
              go_wp2_with fail
              have z0 : (wr.alloc (.cells #[.string key, .string val] 47)).cell? ⟨wr.heap.size, 0, none⟩ = some (.string key) := by simp
              have z1 : (wr.alloc (.cells #[.string key, .string val] 47)).cell? ⟨wr.heap.size, 1, none⟩ = some (.string val) := by simp
              have r1 := cell_keep q1 (below_alloc wr (.cells #[.string key, .string val] 47))
              have r2 := cell_keep q2 (below_alloc wr (.cells #[.string key, .string val] 47))
              have HB2 : Hid (∀ m, (World.drewN (wr.alloc (.cells #[.string key, .string val] 47)) m).cell? ⟨p, 1, none⟩ = some (.slice (some ⟨b, off, none⟩) its.length ci) ∧ (World.drewN (wr.alloc (.cells #[.string key, .string val] 47)) m).cell? ⟨p, 2, none⟩ = some (.slice ak 0 ck) ∧ Below w0.heap.size w0 (World.drewN (wr.alloc (.cells #[.string key, .string val] 47)) m) ∧ Below w.heap.size w (World.drewN (wr.alloc (.cells #[.string key, .string val] 47)) m)) := fun m => ⟨cell_keep q1 (below_an wr _ m), cell_keep q2 (below_an wr _ m), below_then (unhide HBel0) (below_an wr _ m), below_then (unhide HBel) (below_an wr _ m)⟩
              obtain ⟨p2, hp2⟩ : ∃ y, y = wr.heap.size := ⟨_, rfl⟩
              rw [← hp2] at z0 z1 ⊢
              clear hp2 c0 c1 q1 q2
              generalize wr.alloc (.cells #[.string key, .string val] 47) = wa at *
              go_quiet (fail)
              go_wp2
              go_roundw
              case rel => exact ⟨1, by omega, by go_num, (unhide HU).first (unhide HX) (unhide HMX), unhide HB2 _⟩
              case measure => simp [intOf]; omega
            · obtain ⟨j, hj⟩ : ∃ j, j + 1 = k := ⟨k - 1, by omega⟩
              have v0 : 0 < k := by omega
              have v0' : decide ((0 : Int) < (k : Int)) = true := decide_eq_true (by omega)
              have v1 : (k : Int) - 1 = (j : Int) := by omega
              have v2 : IntKind.i64.wrap (j : Int) = (j : Int) := by rw [IntKind.wrap_i64]; omega
              have v3 : j < its.length := by omega
              have v4 : (j : Int) < (its.length : Int) := by omega
              have HJ := hide hj
              clear h0 hj
              obtain ⟨⟨ky, vy⟩, hy⟩ := get_some v3
              have d0 := cell_keep_of (unhide HBel0) ((unhide HROW) j _ hy).1
              simp only at d0
              have HY := hide hy
              clear hy
              by_cases hls : less ky key = true
              · have HLS := hide hls
                have hls' : Op.bytesLess ky.toList key.toList = true := hls
                clear hls
                go_wp2_with fail
                have z0 : (wr.alloc (.cells #[.string key, .string val] 47)).cell? ⟨wr.heap.size, 0, none⟩ = some (.string key) := by simp
                have z1 : (wr.alloc (.cells #[.string key, .string val] 47)).cell? ⟨wr.heap.size, 1, none⟩ = some (.string val) := by simp
                have r1 := cell_keep q1 (below_alloc wr (.cells #[.string key, .string val] 47))
                have r2 := cell_keep q2 (below_alloc wr (.cells #[.string key, .string val] 47))
                have d0 := cell_keep d0 (below_alloc wr (.cells #[.string key, .string val] 47))
                have HB2 : Hid (∀ m, (World.drewN (wr.alloc (.cells #[.string key, .string val] 47)) m).cell? ⟨p, 1, none⟩ = some (.slice (some ⟨b, off, none⟩) its.length ci) ∧ (World.drewN (wr.alloc (.cells #[.string key, .string val] 47)) m).cell? ⟨p, 2, none⟩ = some (.slice ak 0 ck) ∧ Below w0.heap.size w0 (World.drewN (wr.alloc (.cells #[.string key, .string val] 47)) m) ∧ Below w.heap.size w (World.drewN (wr.alloc (.cells #[.string key, .string val] 47)) m)) := fun m => ⟨cell_keep q1 (below_an wr _ m), cell_keep q2 (below_an wr _ m), below_then (unhide HBel0) (below_an wr _ m), below_then (unhide HBel) (below_an wr _ m)⟩
                obtain ⟨p2, hp2⟩ : ∃ y, y = wr.heap.size := ⟨_, rfl⟩
                rw [← hp2] at z0 z1 ⊢
                clear hp2 c0 c1 q1 q2
                generalize wr.alloc (.cells #[.string key, .string val] 47) = wa at *
                go_quiet (fail)
                go_wp2
                go_roundw
                case rel =>
                  have hj := unhide HJ
                  subst hj
                  exact ⟨j + 2, by omega, by go_num, (unhide HU).next (unhide HX) (unhide HY) (unhide HMX) (unhide HLS), unhide HB2 _⟩
                case measure => simp [intOf]; omega
              · have hls : less ky key = false := by simpa using hls
                have HN : Hid (rise mayI none its = false) := by
                  show _ = _
                  have hj := unhide HJ
                  subst hj
                  exact (unhide HU).falls (unhide HX) (unhide HY) hls
                have hls' : Op.bytesLess ky.toList key.toList = false := hls
                clear hls
                go_wp2_with fail
                have z0 : (wr.alloc (.cells #[.string key, .string val] 47)).cell? ⟨wr.heap.size, 0, none⟩ = some (.string key) := by simp
                have z1 : (wr.alloc (.cells #[.string key, .string val] 47)).cell? ⟨wr.heap.size, 1, none⟩ = some (.string val) := by simp
                have r1 := cell_keep q1 (below_alloc wr (.cells #[.string key, .string val] 47))
                have r2 := cell_keep q2 (below_alloc wr (.cells #[.string key, .string val] 47))
                have d0 := cell_keep d0 (below_alloc wr (.cells #[.string key, .string val] 47))
                have HB2 : Hid (∀ m, (World.drewN (wr.alloc (.cells #[.string key, .string val] 47)) m).cell? ⟨p, 1, none⟩ = some (.slice (some ⟨b, off, none⟩) its.length ci) ∧ (World.drewN (wr.alloc (.cells #[.string key, .string val] 47)) m).cell? ⟨p, 2, none⟩ = some (.slice ak 0 ck) ∧ Below w0.heap.size w0 (World.drewN (wr.alloc (.cells #[.string key, .string val] 47)) m) ∧ Below w.heap.size w (World.drewN (wr.alloc (.cells #[.string key, .string val] 47)) m)) := fun m => ⟨cell_keep q1 (below_an wr _ m), cell_keep q2 (below_an wr _ m), below_then (unhide HBel0) (below_an wr _ m), below_then (unhide HBel) (below_an wr _ m)⟩
                obtain ⟨p2, hp2⟩ : ∃ y, y = wr.heap.size := ⟨_, rfl⟩
                rw [← hp2] at z0 z1 ⊢
                clear hp2 c0 c1 q1 q2
                generalize wr.alloc (.cells #[.string key, .string val] 47) = wa at *
                go_quiet (fail)
                go_wp2
                go_ret
                exact ⟨ret_bool (unhide HN).symm, (unhide HB2 _).2.2.2⟩
          · have f2 : decide ((160 : Int) < (val.size : Int)) = true := decide_eq_true (by omega)
            have HN := hide ((unhide HU).bad (unhide HX) (show mayI (key, val) = false by simp [mayI, k2]))
            go_wp2_with fail
            have z0 : (wr.alloc (.cells #[.string key, .string val] 47)).cell? ⟨wr.heap.size, 0, none⟩ = some (.string key) := by simp
            have z1 : (wr.alloc (.cells #[.string key, .string val] 47)).cell? ⟨wr.heap.size, 1, none⟩ = some (.string val) := by simp
            have r1 := cell_keep q1 (below_alloc wr (.cells #[.string key, .string val] 47))
            have r2 := cell_keep q2 (below_alloc wr (.cells #[.string key, .string val] 47))
            have HB2 : Hid (∀ m, (World.drewN (wr.alloc (.cells #[.string key, .string val] 47)) m).cell? ⟨p, 1, none⟩ = some (.slice (some ⟨b, off, none⟩) its.length ci) ∧ (World.drewN (wr.alloc (.cells #[.string key, .string val] 47)) m).cell? ⟨p, 2, none⟩ = some (.slice ak 0 ck) ∧ Below w0.heap.size w0 (World.drewN (wr.alloc (.cells #[.string key, .string val] 47)) m) ∧ Below w.heap.size w (World.drewN (wr.alloc (.cells #[.string key, .string val] 47)) m)) := fun m => ⟨cell_keep q1 (below_an wr _ m), cell_keep q2 (below_an wr _ m), below_then (unhide HBel0) (below_an wr _ m), below_then (unhide HBel) (below_an wr _ m)⟩
            obtain ⟨p2, hp2⟩ : ∃ y, y = wr.heap.size := ⟨_, rfl⟩
            rw [← hp2] at z0 z1 ⊢
            clear hp2 c0 c1 q1 q2
            generalize wr.alloc (.cells #[.string key, .string val] 47) = wa at *
            go_quiet (fail)
            go_wp2
            go_ret
            exact ⟨ret_bool (unhide HN).symm, (unhide HB2 _).2.2.2⟩
        · have f1 : decide ((272 : Int) < (key.size : Int)) = true := decide_eq_true (by omega)
          have HN := hide ((unhide HU).bad (unhide HX) (show mayI (key, val) = false by simp [mayI, k1]))
          go_wp2_with fail
          have z0 : (wr.alloc (.cells #[.string key, .string val] 47)).cell? ⟨wr.heap.size, 0, none⟩ = some (.string key) := by simp
          have z1 : (wr.alloc (.cells #[.string key, .string val] 47)).cell? ⟨wr.heap.size, 1, none⟩ = some (.string val) := by simp
          have r1 := cell_keep q1 (below_alloc wr (.cells #[.string key, .string val] 47))
          have r2 := cell_keep q2 (below_alloc wr (.cells #[.string key, .string val] 47))
          have HB2 : Hid (∀ m, (World.drewN (wr.alloc (.cells #[.string key, .string val] 47)) m).cell? ⟨p, 1, none⟩ = some (.slice (some ⟨b, off, none⟩) its.length ci) ∧ (World.drewN (wr.alloc (.cells #[.string key, .string val] 47)) m).cell? ⟨p, 2, none⟩ = some (.slice ak 0 ck) ∧ Below w0.heap.size w0 (World.drewN (wr.alloc (.cells #[.string key, .string val] 47)) m) ∧ Below w.heap.size w (World.drewN (wr.alloc (.cells #[.string key, .string val] 47)) m)) := fun m => ⟨cell_keep q1 (below_an wr _ m), cell_keep q2 (below_an wr _ m), below_then (unhide HBel0) (below_an wr _ m), below_then (unhide HBel) (below_an wr _ m)⟩
          obtain ⟨p2, hp2⟩ : ∃ y, y = wr.heap.size := ⟨_, rfl⟩
          rw [← hp2] at z0 z1 ⊢
          clear hp2 c0 c1 q1 q2
          generalize wr.alloc (.cells #[.string key, .string val] 47) = wa at *
          go_quiet (fail)
          go_wp2
          go_ret
          exact ⟨ret_bool (unhide HN).symm, (unhide HB2 _).2.2.2⟩
      · have f0 := empty_of (s := key) (by omega)
        have HN := hide ((unhide HU).bad (unhide HX) (show mayI (key, val) = false by simp [mayI, k0]))
        go_wp2_with fail
        have z0 : (wr.alloc (.cells #[.string key, .string val] 47)).cell? ⟨wr.heap.size, 0, none⟩ = some (.string key) := by simp
        have z1 : (wr.alloc (.cells #[.string key, .string val] 47)).cell? ⟨wr.heap.size, 1, none⟩ = some (.string val) := by simp
        have r1 := cell_keep q1 (below_alloc wr (.cells #[.string key, .string val] 47))
        have r2 := cell_keep q2 (below_alloc wr (.cells #[.string key, .string val] 47))
        have HB2 : Hid (∀ m, (World.drewN (wr.alloc (.cells #[.string key, .string val] 47)) m).cell? ⟨p, 1, none⟩ = some (.slice (some ⟨b, off, none⟩) its.length ci) ∧ (World.drewN (wr.alloc (.cells #[.string key, .string val] 47)) m).cell? ⟨p, 2, none⟩ = some (.slice ak 0 ck) ∧ Below w0.heap.size w0 (World.drewN (wr.alloc (.cells #[.string key, .string val] 47)) m) ∧ Below w.heap.size w (World.drewN (wr.alloc (.cells #[.string key, .string val] 47)) m)) := fun m => ⟨cell_keep q1 (below_an wr _ m), cell_keep q2 (below_an wr _ m), below_then (unhide HBel0) (below_an wr _ m), below_then (unhide HBel) (below_an wr _ m)⟩
        obtain ⟨p2, hp2⟩ : ∃ y, y = wr.heap.size := ⟨_, rfl⟩
        rw [← hp2] at z0 z1 ⊢
        clear hp2 c0 c1 q1 q2
        generalize wr.alloc (.cells #[.string key, .string val] 47) = wa at *
        go_quiet (fail)
        go_wp2
        go_ret
        exact ⟨ret_bool (unhide HN).symm, (unhide HB2 _).2.2.2⟩
    · obtain rfl : k = its.length := by omega
      have HD := hide (unhide HU).done
      clear HU
      go_wp2
      go_loop [5] (fun t => t = .int .i64 0) (fun _ => 0)
      case atStart => rfl
      case round =>
        subst hrel
        go_wp2
        go_ret
        exact ⟨ret_bool (unhide HD).symm, unhide HBel⟩
end Go.Proofs.Ytepkifledonldaa
