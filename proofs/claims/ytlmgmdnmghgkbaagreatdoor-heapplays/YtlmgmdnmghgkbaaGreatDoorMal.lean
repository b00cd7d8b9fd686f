/- Texts that the proof needs, one behind the other. -/
import Derived.Test.YtlmgmdnmghgkbaaGreatDoorMak
import Derived.Deep.QuietTactic
import Derived.BigQuiet
import Derived.Test.YtlmgmdnmghgkbaaGreatDoorMac
import Derived.Test.YtlmgmdnmghgkbaaGreatDoorMad
import Derived.Test.YtlmgmdnmghgkbaaGreatDoorMai
/- Whether a node is right, as the document tells it. -/
namespace Go.Proofs.YtlmgmdnmghgkbaaGreatDoor.L6
open Go.ChangeShapes Go.WideShapes Go.ChangeAt Go.RowKit


set_option maxRecDepth 10000 in
set_option maxHeartbeats 8000000 in
theorem refRightK (ai ak : Option Addr) (ci ck : Nat) (kds : List Kd) (w : World) (hr : Row kv w ak kds) (hl : kds.length ≤ 1000000) (hp : 0 < kds.length) :
    Calls Tryz.prog 177 #[.agg #[.bool false, .slice ai 0 ci, .slice ak kds.length ck]] w fun e w' => e = .returned (.bool (rise mayK none kds)) ∧ Below w.heap.size w w' := by
  have e0 : ((kds.length : Int) == 0) = false := beq_eq_false_iff_ne.2 (by omega)
  have hb0 := below_alloc w (.cells #[.bool false, .slice ai 0 ci, .slice ak kds.length ck] 43)
  have HR := hide (hr.grow hb0)
  have HBW := hide hb0
  clear hr hb0
  go_enter Tryz.func177, Tryz.ntmps177
  go_wp2
  have q1 : (w.alloc (.cells #[.bool false, .slice ai 0 ci, .slice ak kds.length ck] 43)).cell? ⟨w.heap.size, 2, none⟩ = some (.slice ak kds.length ck) := by simp
  have q2 : (w.alloc (.cells #[.bool false, .slice ai 0 ci, .slice ak kds.length ck] 43)).cell? ⟨w.heap.size, 1, none⟩ = some (.slice ai 0 ci) := by simp
  obtain ⟨p, hp'⟩ : ∃ y, y = w.heap.size := ⟨_, rfl⟩
  rw [← hp'] at q1 q2 ⊢
  clear hp'
  generalize w.alloc (.cells #[.bool false, .slice ai 0 ci, .slice ak kds.length ck] 43) = w0 at *
  go_loop [3] (fun t => t = .int .i64 0) (fun _ => 0)
  case atStart => rfl
  case round =>
    subst hrel
    go_wp2
    go_loopw [5] (fun t wr => ∃ k : Nat, k ≤ kds.length ∧ t = .int .i64 k ∧ Upto mayK kds k ∧ wr.cell? ⟨p, 2, none⟩ = some (.slice ak kds.length ck) ∧ wr.cell? ⟨p, 1, none⟩ = some (.slice ai 0 ci) ∧ Below w0.heap.size w0 wr ∧ Below w.heap.size w wr) (fun t _ => kds.length - (intOf t).toNat)
    case atStart => exact ⟨0, Nat.zero_le _, rfl, Upto.start _ _, q1, q2, Below.refl _ _, unhide HBW⟩
    case round =>
      obtain ⟨k, hk, rfl, hu, q1, q2, hbel0, hbel⟩ := hrel
      have HU := hide hu
      have HBel := hide hbel
      have HBel0 := hide hbel0
      clear hu hbel hbel0
      by_cases hlt : k < kds.length
      · obtain ⟨b, off, rfl, hr⟩ := (unhide HR).at hlt
        obtain ⟨⟨key, val⟩, hx⟩ := get_some hlt
        have c0 := cell_keep_of (unhide HBel0) (hr k _ hx).1
        have c1 := cell_keep_of (unhide HBel0) (hr k _ hx).2
        simp only at c0 c1
        have HX := hide hx
        have HROW := hide hr
        clear hx hr HR
        by_cases k1 : key.size ≤ 272
        · have f1 : decide ((272 : Int) < (key.size : Int)) = false := decide_eq_false (by omega)
          by_cases k0 : 2 ≤ val
          · have f0 : decide (val < 2) = false := decide_eq_false (by omega)
            by_cases k2 : val < 4096
            · have f2 : decide ((4095 : Int) < val) = false := decide_eq_false (by omega)
              have HMX := hide (show mayK (key, val) = true by simp [mayK, k0, k1, k2])
              by_cases h0 : k = 0
              · subst h0
                rw [Nat.zero_mul, Nat.add_zero] at c0 c1
                go_wp2_with fail
                have z0 : (wr.alloc (.cells #[.string key, .int .i64 val] 153)).cell? ⟨wr.heap.size, 0, none⟩ = some (.string key) := by simp
                have z1 : (wr.alloc (.cells #[.string key, .int .i64 val] 153)).cell? ⟨wr.heap.size, 1, none⟩ = some (.int .i64 val) := by simp
                have r1 := cell_keep q1 (below_alloc wr (.cells #[.string key, .int .i64 val] 153))
                have r2 := cell_keep q2 (below_alloc wr (.cells #[.string key, .int .i64 val] 153))
                have HB2 : Hid (∀ m, (World.drewN (wr.alloc (.cells #[.string key, .int .i64 val] 153)) m).cell? ⟨p, 2, none⟩ = some (.slice (some ⟨b, off, none⟩) kds.length ck) ∧ (World.drewN (wr.alloc (.cells #[.string key, .int .i64 val] 153)) m).cell? ⟨p, 1, none⟩ = some (.slice ai 0 ci) ∧ Below w0.heap.size w0 (World.drewN (wr.alloc (.cells #[.string key, .int .i64 val] 153)) m) ∧ Below w.heap.size w (World.drewN (wr.alloc (.cells #[.string key, .int .i64 val] 153)) m)) := fun m => ⟨cell_keep q1 (below_an wr _ m), cell_keep q2 (below_an wr _ m), below_then (unhide HBel0) (below_an wr _ m), below_then (unhide HBel) (below_an wr _ m)⟩
                obtain ⟨p2, hp2⟩ : ∃ y, y = wr.heap.size := ⟨_, rfl⟩
                rw [← hp2] at z0 z1 ⊢
                clear hp2 c0 c1 q1 q2
                generalize wr.alloc (.cells #[.string key, .int .i64 val] 153) = wa at *
                go_quiet (fail)
                go_wp2
                go_roundw
                case rel => exact ⟨1, by omega, by go_num, (unhide HU).first (unhide HX) (unhide HMX), unhide HB2 _⟩
                case measure => simp [intOf]; omega
              · obtain ⟨j, hj⟩ : ∃ j, j + 1 = k := ⟨k - 1, by omega⟩
                have v0 : 0 < k := by omega
                have v0' : decide ((0 : Int) < (k : Int)) = true := decide_eq_true (by omega)
                have v1 : (k : Int) - 1 = (j : Int) := by omega
                have v2 : IntKind.i64.wrap (j : Int) = (j : Int) := by rw [IntKind.wrap_i64]; omega
                have v3 : j < kds.length := by omega
                have v4 : (j : Int) < (kds.length : Int) := by omega
                have HJ := hide hj
                clear h0 hj
                obtain ⟨⟨ky, vy⟩, hy⟩ := get_some v3
                have d0 := cell_keep_of (unhide HBel0) ((unhide HROW) j _ hy).1
                simp only at d0
                have HY := hide hy
                clear hy
                by_cases hls : less ky key = true
                · have HLS := hide hls
                  have hls' : Op.bytesLess ky.toList key.toList = true := hls
                  clear hls
                  go_wp2_with fail
                  have z0 : (wr.alloc (.cells #[.string key, .int .i64 val] 153)).cell? ⟨wr.heap.size, 0, none⟩ = some (.string key) := by simp
                  have z1 : (wr.alloc (.cells #[.string key, .int .i64 val] 153)).cell? ⟨wr.heap.size, 1, none⟩ = some (.int .i64 val) := by simp
                  have r1 := cell_keep q1 (below_alloc wr (.cells #[.string key, .int .i64 val] 153))
                  have r2 := cell_keep q2 (below_alloc wr (.cells #[.string key, .int .i64 val] 153))
                  have d0 := cell_keep d0 (below_alloc wr (.cells #[.string key, .int .i64 val] 153))
                  have HB2 : Hid (∀ m, (World.drewN (wr.alloc (.cells #[.string key, .int .i64 val] 153)) m).cell? ⟨p, 2, none⟩ = some (.slice (some ⟨b, off, none⟩) kds.length ck) ∧ (World.drewN (wr.alloc (.cells #[.string key, .int .i64 val] 153)) m).cell? ⟨p, 1, none⟩ = some (.slice ai 0 ci) ∧ Below w0.heap.size w0 (World.drewN (wr.alloc (.cells #[.string key, .int .i64 val] 153)) m) ∧ Below w.heap.size w (World.drewN (wr.alloc (.cells #[.string key, .int .i64 val] 153)) m)) := fun m => ⟨cell_keep q1 (below_an wr _ m), cell_keep q2 (below_an wr _ m), below_then (unhide HBel0) (below_an wr _ m), below_then (unhide HBel) (below_an wr _ m)⟩
                  obtain ⟨p2, hp2⟩ : ∃ y, y = wr.heap.size := ⟨_, rfl⟩
                  rw [← hp2] at z0 z1 ⊢
                  clear hp2 c0 c1 q1 q2
                  generalize wr.alloc (.cells #[.string key, .int .i64 val] 153) = wa at *
                  go_quiet (fail)
                  go_wp2
                  go_roundw
                  case rel =>
                    have hj := unhide HJ
                    subst hj
                    exact ⟨j + 2, by omega, by go_num, (unhide HU).next (unhide HX) (unhide HY) (unhide HMX) (unhide HLS), unhide HB2 _⟩
                  case measure => simp [intOf]; omega
                · have hls : less ky key = false := by simpa using hls
                  have HN : Hid (rise mayK none kds = false) := by
                    show _ = _
                    have hj := unhide HJ
                    subst hj
                    exact (unhide HU).falls (unhide HX) (unhide HY) hls
                  have hls' : Op.bytesLess ky.toList key.toList = false := hls
                  clear hls
                  go_wp2_with fail
                  have z0 : (wr.alloc (.cells #[.string key, .int .i64 val] 153)).cell? ⟨wr.heap.size, 0, none⟩ = some (.string key) := by simp
                  have z1 : (wr.alloc (.cells #[.string key, .int .i64 val] 153)).cell? ⟨wr.heap.size, 1, none⟩ = some (.int .i64 val) := by simp
                  have r1 := cell_keep q1 (below_alloc wr (.cells #[.string key, .int .i64 val] 153))
                  have r2 := cell_keep q2 (below_alloc wr (.cells #[.string key, .int .i64 val] 153))
                  have d0 := cell_keep d0 (below_alloc wr (.cells #[.string key, .int .i64 val] 153))
                  have HB2 : Hid (∀ m, (World.drewN (wr.alloc (.cells #[.string key, .int .i64 val] 153)) m).cell? ⟨p, 2, none⟩ = some (.slice (some ⟨b, off, none⟩) kds.length ck) ∧ (World.drewN (wr.alloc (.cells #[.string key, .int .i64 val] 153)) m).cell? ⟨p, 1, none⟩ = some (.slice ai 0 ci) ∧ Below w0.heap.size w0 (World.drewN (wr.alloc (.cells #[.string key, .int .i64 val] 153)) m) ∧ Below w.heap.size w (World.drewN (wr.alloc (.cells #[.string key, .int .i64 val] 153)) m)) := fun m => ⟨cell_keep q1 (below_an wr _ m), cell_keep q2 (below_an wr _ m), below_then (unhide HBel0) (below_an wr _ m), below_then (unhide HBel) (below_an wr _ m)⟩
                  obtain ⟨p2, hp2⟩ : ∃ y, y = wr.heap.size := ⟨_, rfl⟩
                  rw [← hp2] at z0 z1 ⊢
                  clear hp2 c0 c1 q1 q2
                  generalize wr.alloc (.cells #[.string key, .int .i64 val] 153) = wa at *
                  go_quiet (fail)
                  go_wp2
                  go_ret
                  exact ⟨ret_bool (unhide HN).symm, (unhide HB2 _).2.2.2⟩
            · have f2 : decide ((4095 : Int) < val) = true := decide_eq_true (by omega)
              have HN := hide ((unhide HU).bad (unhide HX) (show mayK (key, val) = false by simp [mayK, k2]))
              go_wp2_with fail
              have z0 : (wr.alloc (.cells #[.string key, .int .i64 val] 153)).cell? ⟨wr.heap.size, 0, none⟩ = some (.string key) := by simp
              have z1 : (wr.alloc (.cells #[.string key, .int .i64 val] 153)).cell? ⟨wr.heap.size, 1, none⟩ = some (.int .i64 val) := by simp
              have r1 := cell_keep q1 (below_alloc wr (.cells #[.string key, .int .i64 val] 153))
              have r2 := cell_keep q2 (below_alloc wr (.cells #[.string key, .int .i64 val] 153))
              have HB2 : Hid (∀ m, (World.drewN (wr.alloc (.cells #[.string key, .int .i64 val] 153)) m).cell? ⟨p, 2, none⟩ = some (.slice (some ⟨b, off, none⟩) kds.length ck) ∧ (World.drewN (wr.alloc (.cells #[.string key, .int .i64 val] 153)) m).cell? ⟨p, 1, none⟩ = some (.slice ai 0 ci) ∧ Below w0.heap.size w0 (World.drewN (wr.alloc (.cells #[.string key, .int .i64 val] 153)) m) ∧ Below w.heap.size w (World.drewN (wr.alloc (.cells #[.string key, .int .i64 val] 153)) m)) := fun m => ⟨cell_keep q1 (below_an wr _ m), cell_keep q2 (below_an wr _ m), below_then (unhide HBel0) (below_an wr _ m), below_then (unhide HBel) (below_an wr _ m)⟩
              obtain ⟨p2, hp2⟩ : ∃ y, y = wr.heap.size := ⟨_, rfl⟩
              rw [← hp2] at z0 z1 ⊢
              clear hp2 c0 c1 q1 q2
              generalize wr.alloc (.cells #[.string key, .int .i64 val] 153) = wa at *
              go_quiet (fail)
              go_wp2
              go_ret
              exact ⟨ret_bool (unhide HN).symm, (unhide HB2 _).2.2.2⟩
          · have f0 : decide (val < 2) = true := decide_eq_true (by omega)
            have HN := hide ((unhide HU).bad (unhide HX) (show mayK (key, val) = false by simp [mayK, k0]))
            go_wp2_with fail
            have z0 : (wr.alloc (.cells #[.string key, .int .i64 val] 153)).cell? ⟨wr.heap.size, 0, none⟩ = some (.string key) := by simp
            have z1 : (wr.alloc (.cells #[.string key, .int .i64 val] 153)).cell? ⟨wr.heap.size, 1, none⟩ = some (.int .i64 val) := by simp
            have r1 := cell_keep q1 (below_alloc wr (.cells #[.string key, .int .i64 val] 153))
            have r2 := cell_keep q2 (below_alloc wr (.cells #[.string key, .int .i64 val] 153))
            have HB2 : Hid (∀ m, (World.drewN (wr.alloc (.cells #[.string key, .int .i64 val] 153)) m).cell? ⟨p, 2, none⟩ = some (.slice (some ⟨b, off, none⟩) kds.length ck) ∧ (World.drewN (wr.alloc (.cells #[.string key, .int .i64 val] 153)) m).cell? ⟨p, 1, none⟩ = some (.slice ai 0 ci) ∧ Below w0.heap.size w0 (World.drewN (wr.alloc (.cells #[.string key, .int .i64 val] 153)) m) ∧ Below w.heap.size w (World.drewN (wr.alloc (.cells #[.string key, .int .i64 val] 153)) m)) := fun m => ⟨cell_keep q1 (below_an wr _ m), cell_keep q2 (below_an wr _ m), below_then (unhide HBel0) (below_an wr _ m), below_then (unhide HBel) (below_an wr _ m)⟩
            obtain ⟨p2, hp2⟩ : ∃ y, y = wr.heap.size := ⟨_, rfl⟩
            rw [← hp2] at z0 z1 ⊢
            clear hp2 c0 c1 q1 q2
            generalize wr.alloc (.cells #[.string key, .int .i64 val] 153) = wa at *
            go_quiet (fail)
            go_wp2
            go_ret
            exact ⟨ret_bool (unhide HN).symm, (unhide HB2 _).2.2.2⟩
        · have f1 : decide ((272 : Int) < (key.size : Int)) = true := decide_eq_true (by omega)
          have HN := hide ((unhide HU).bad (unhide HX) (show mayK (key, val) = false by simp [mayK, k1]))
          go_wp2_with fail
          have z0 : (wr.alloc (.cells #[.string key, .int .i64 val] 153)).cell? ⟨wr.heap.size, 0, none⟩ = some (.string key) := by simp
          have z1 : (wr.alloc (.cells #[.string key, .int .i64 val] 153)).cell? ⟨wr.heap.size, 1, none⟩ = some (.int .i64 val) := by simp
          have r1 := cell_keep q1 (below_alloc wr (.cells #[.string key, .int .i64 val] 153))
          have r2 := cell_keep q2 (below_alloc wr (.cells #[.string key, .int .i64 val] 153))
          have HB2 : Hid (∀ m, (World.drewN (wr.alloc (.cells #[.string key, .int .i64 val] 153)) m).cell? ⟨p, 2, none⟩ = some (.slice (some ⟨b, off, none⟩) kds.length ck) ∧ (World.drewN (wr.alloc (.cells #[.string key, .int .i64 val] 153)) m).cell? ⟨p, 1, none⟩ = some (.slice ai 0 ci) ∧ Below w0.heap.size w0 (World.drewN (wr.alloc (.cells #[.string key, .int .i64 val] 153)) m) ∧ Below w.heap.size w (World.drewN (wr.alloc (.cells #[.string key, .int .i64 val] 153)) m)) := fun m => ⟨cell_keep q1 (below_an wr _ m), cell_keep q2 (below_an wr _ m), below_then (unhide HBel0) (below_an wr _ m), below_then (unhide HBel) (below_an wr _ m)⟩
          obtain ⟨p2, hp2⟩ : ∃ y, y = wr.heap.size := ⟨_, rfl⟩
          rw [← hp2] at z0 z1 ⊢
          clear hp2 c0 c1 q1 q2
          generalize wr.alloc (.cells #[.string key, .int .i64 val] 153) = wa at *
          go_quiet (fail)
          go_wp2
          go_ret
          exact ⟨ret_bool (unhide HN).symm, (unhide HB2 _).2.2.2⟩
      · obtain rfl : k = kds.length := by omega
        have HD := hide (unhide HU).done
        clear HU
        go_wp2
        go_ret
        exact ⟨ret_bool (unhide HD).symm, unhide HBel⟩
end Go.Proofs.YtlmgmdnmghgkbaaGreatDoor.L6

/- A node's bytes, as the document has them. -/
namespace Go.Proofs.YtlmgmdnmghgkbaaGreatDoor.L6
open Go.ChangeShapes Go.WideShapes Go.ChangeAt Go.RowKit

theorem ret_str' {s t : ByteArray} (h : s = t) : Ending.returned (.string s) = .returned (.string t) := by rw [h]

set_option maxRecDepth 10000 in
set_option maxHeartbeats 2000000 in
theorem refItem_any (k v : ByteArray) (w : World) (hk : k.size ≤ 400000) (hv : v.size ≤ 400000) :
    Calls Tryz.prog 179 #[.agg #[.string k, .string v]] w fun e w' => e = .returned (.string (strOf (itL (k, v)))) ∧ Below w.heap.size w w' := by
  have T1 := hide (fun W => refText_any k W (by omega))
  have T2 := hide (fun W => refText_any v W (by omega))
  rw [strOf_txL] at T1 T2
  have hz1 := strOf_size (txL k)
  have hz2 := strOf_size (txL v)
  have hl1 := txL_length k
  have hl2 := txL_length v
  have hadd := add_run' (strOf (txL k)) (strOf (txL v)) (by omega)
  have HE : Hid (strOf (txL k) ++ strOf (txL v) = strOf (itL (k, v))) := (strOf_append _ _).symm
  have q0 : (w.alloc (.cells #[.string k, .string v] 126)).cell? ⟨w.heap.size, 0, none⟩ = some (.string k) := by simp
  have q1 : (w.alloc (.cells #[.string k, .string v] 126)).cell? ⟨w.heap.size, 1, none⟩ = some (.string v) := by simp
  have HB := hide (below_alloc w (.cells #[.string k, .string v] 126))
  clear hz1 hz2 hl1 hl2
  go_enter Tryz.func179, Tryz.ntmps179
  go_wp2_with fail
  generalize strOf (txL k) = K at *
  generalize strOf (txL v) = V at *
  obtain ⟨p, hp'⟩ : ∃ y, y = w.heap.size := ⟨_, rfl⟩
  rw [← hp'] at q0 q1 ⊢
  generalize w.alloc (.cells #[.string k, .string v] 126) = w1 at *
  clear hp'
  have H0 : Hid (Below w.heap.size w w1.drew ∧ w1.drew.cell? ⟨p, 0, none⟩ = some (.string k) ∧ w1.drew.cell? ⟨p, 1, none⟩ = some (.string v)) := ⟨(unhide HB).drew, q0, q1⟩
  clear q0 q1
  go_region_held3 (fun w' => Below w.heap.size w w' ∧ w'.cell? ⟨p, 0, none⟩ = some (.string k) ∧ w'.cell? ⟨p, 1, none⟩ = some (.string v))
    (first | assumption | exact unhide H0)
    (first
      | (go_at_call 212; refine (unhide T1 _).mono ?_; rintro e w2 ⟨rfl, hb⟩; have H1 : Below w.heap.size w w2 ∧ w2.cell? ⟨p, 0, none⟩ = some (.string k) ∧ w2.cell? ⟨p, 1, none⟩ = some (.string v) := ⟨below_then (unhide H0).1 hb, cell_keep (unhide H0).2.1 hb, cell_keep (unhide H0).2.2 hb⟩; clear hb T1)
      | (go_at_call 212; refine (unhide T2 _).mono ?_; rintro e w3 ⟨rfl, hb⟩; have H2 : Below w.heap.size w w3 ∧ w3.cell? ⟨p, 0, none⟩ = some (.string k) ∧ w3.cell? ⟨p, 1, none⟩ = some (.string v) := ⟨below_then H1.1 hb, cell_keep H1.2.1 hb, cell_keep H1.2.2 hb⟩; clear hb))
  have HF := hide H2.1
  clear H1 H2 T2 hadd
  go_wp2
  go_ret
  exact ⟨ret_str' (unhide HE), unhide HF⟩

set_option maxRecDepth 10000 in
set_option maxHeartbeats 2000000 in
theorem refKid_any (k : ByteArray) (v : Int) (w : World) (hk : k.size ≤ 400000) (hv : 0 ≤ v ∧ v < 9223372036854775808) :
    Calls Tryz.prog 180 #[.agg #[.string k, .int .i64 v]] w fun e w' => e = .returned (.string (strOf (kdL (k, v)))) ∧ Below w.heap.size w w' := by
  have hw : IntKind.u64.wrap v = v := by rw [IntKind.wrap_u64]; omega
  have T1 := hide (fun W => refText_any k W (by omega))
  have T2 := hide (fun W => refShort_any v W (by omega))
  rw [strOf_txL] at T1
  have hz1 := strOf_size (txL k)
  have hz2 := strOf_size (Pk.shL v.toNat)
  have hl1 := txL_length k
  have hl2 := Pk.shL_le v.toNat
  have hadd := add_run' (strOf (txL k)) (strOf (Pk.shL v.toNat)) (by omega)
  have HE : Hid (strOf (txL k) ++ strOf (Pk.shL v.toNat) = strOf (kdL (k, v))) := (strOf_append _ _).symm
  have q0 : (w.alloc (.cells #[.string k, .int .i64 v] 153)).cell? ⟨w.heap.size, 0, none⟩ = some (.string k) := by simp
  have q1 : (w.alloc (.cells #[.string k, .int .i64 v] 153)).cell? ⟨w.heap.size, 1, none⟩ = some (.int .i64 v) := by simp
  have HB := hide (below_alloc w (.cells #[.string k, .int .i64 v] 153))
  clear hz1 hz2 hl1 hl2
  go_enter Tryz.func180, Tryz.ntmps180
  go_wp2_with fail
  generalize strOf (txL k) = K at *
  generalize strOf (Pk.shL v.toNat) = V at *
  obtain ⟨p, hp'⟩ : ∃ y, y = w.heap.size := ⟨_, rfl⟩
  rw [← hp'] at q0 q1 ⊢
  generalize w.alloc (.cells #[.string k, .int .i64 v] 153) = w1 at *
  clear hp'
  have H0 : Hid (Below w.heap.size w w1.drew ∧ w1.drew.cell? ⟨p, 0, none⟩ = some (.string k) ∧ w1.drew.cell? ⟨p, 1, none⟩ = some (.int .i64 v)) := ⟨(unhide HB).drew, q0, q1⟩
  clear q0 q1
  go_region_held3 (fun w' => Below w.heap.size w w' ∧ w'.cell? ⟨p, 0, none⟩ = some (.string k) ∧ w'.cell? ⟨p, 1, none⟩ = some (.int .i64 v))
    (first | assumption | exact unhide H0)
    (first
      | (go_at_call 212; refine (unhide T1 _).mono ?_; rintro e w2 ⟨rfl, hb⟩; have H1 : Below w.heap.size w w2 ∧ w2.cell? ⟨p, 0, none⟩ = some (.string k) ∧ w2.cell? ⟨p, 1, none⟩ = some (.int .i64 v) := ⟨below_then (unhide H0).1 hb, cell_keep (unhide H0).2.1 hb, cell_keep (unhide H0).2.2 hb⟩; clear hb T1)
      | (go_at_call 178; refine (unhide T2 _).mono ?_; rintro e w3 ⟨rfl, hb⟩; have H2 : Below w.heap.size w w3 ∧ w3.cell? ⟨p, 0, none⟩ = some (.string k) ∧ w3.cell? ⟨p, 1, none⟩ = some (.int .i64 v) := ⟨below_then H1.1 hb, cell_keep H1.2.1 hb, cell_keep H1.2.2 hb⟩; clear hb))
  have HF := hide H2.1
  clear H1 H2 T2 hadd
  go_wp2
  go_ret
  exact ⟨ret_str' (unhide HE), unhide HF⟩
end Go.Proofs.YtlmgmdnmghgkbaaGreatDoor.L6

/- A node's bytes, as the document has them: the loops. -/
namespace Go.Proofs.YtlmgmdnmghgkbaaGreatDoor.L6
open Go.ChangeShapes Go.WideShapes Go.ChangeAt Go.RowKit

theorem str_eq {s t : ByteArray} (h : s = t) : Value.string s = .string t := by rw [h]

set_option maxRecDepth 10000 in
set_option maxHeartbeats 4000000 in
theorem refBytesI (ai ak : Option Addr) (ci ck : Nat) (its : List It) (w : World) (hr : Row Value.string w ai its) (hl : its.length ≤ 1100) (hm : ∀ x ∈ its, mayI x = true) :
    Calls Tryz.prog 132 #[.agg #[.bool true, .slice ai its.length ci, .slice ak 0 ck]] w fun e w' => e = .returned (.string (strOf (1 :: (Pk.shL its.length ++ its.flatMap itL)))) ∧ Below w.heap.size w w' := by
  have hb0 := below_alloc w (.cells #[.bool true, .slice ai its.length ci, .slice ak 0 ck] 43)
  have HR := hide (hr.grow hb0)
  have HBW := hide hb0
  have HM := hide hm
  have HFL : Hid ((its.flatMap itL).length ≤ 500000) := Nat.le_trans (flat_le its (fun x hx => itL_le (hm x hx))) (by omega)
  have hw : IntKind.u64.wrap (its.length : Int) = (its.length : Int) := by rw [IntKind.wrap_u64]; omega
  have hS0 := fun W => refShort_any 0 W (by omega)
  have HS0 := hide hS0
  have hSL := fun W => refShort_any (its.length : Int) W (by omega)
  rw [Int.toNat_natCast] at hSL
  have HSL := hide hSL
  have hz0 : (strOf (Pk.shL (0 : Int).toNat)).size ≤ 10 := by rw [strOf_size]; exact Pk.shL_le _
  have hz1 : (strOf (Pk.shL its.length)).size ≤ 10 := by rw [strOf_size]; exact Pk.shL_le _
  have HE0 : Hid (⟨#[1]⟩ ++ strOf (Pk.shL its.length) = strOf (1 :: Pk.shL its.length)) := (strOf_append [1] _).symm
  generalize strOf (Pk.shL (0 : Int).toNat) = Z at *
  generalize strOf (Pk.shL its.length) = ZL at *
  have q0 : (w.alloc (.cells #[.bool true, .slice ai its.length ci, .slice ak 0 ck] 43)).cell? ⟨w.heap.size, 0, none⟩ = some (.bool true) := by simp
  have q1 : (w.alloc (.cells #[.bool true, .slice ai its.length ci, .slice ak 0 ck] 43)).cell? ⟨w.heap.size, 1, none⟩ = some (.slice ai its.length ci) := by simp
  have q2 : (w.alloc (.cells #[.bool true, .slice ai its.length ci, .slice ak 0 ck] 43)).cell? ⟨w.heap.size, 2, none⟩ = some (.slice ak 0 ck) := by simp
  have HBD := hide (Below.refl (w.alloc (.cells #[.bool true, .slice ai its.length ci, .slice ak 0 ck] 43)).heap.size (w.alloc (.cells #[.bool true, .slice ai its.length ci, .slice ak 0 ck] 43)))
  clear hr hb0 hm hS0 hSL
  go_enter Tryz.func132, Tryz.ntmps132
  go_wp2_with fail
  obtain ⟨p, hp⟩ : ∃ y, y = w.heap.size := ⟨_, rfl⟩
  rw [← hp] at q0 q1 q2 ⊢
  generalize w.alloc (.cells #[.bool true, .slice ai its.length ci, .slice ak 0 ck] 43) = w0 at *
  clear hp
  go_wp2_with (first
    | (go_at_call 178; refine (unhide HS0 _).mono ?_; rintro e w2 ⟨rfl, hb⟩; have z0 := cell_keep q0 hb; have z1 := cell_keep q1 hb; have z2 := cell_keep q2 hb; have HB1 := hide (below_then (unhide HBD) hb); clear hb HS0 q0 q1 q2)
    | (go_at_call 178; refine (unhide HSL _).mono ?_; rintro e w3 ⟨rfl, hb⟩; have q1 := cell_keep z1 hb; have q2 := cell_keep z2 hb; have HB0 := hide (below_then (unhide HB1) hb); clear hb z0 z1 z2))
  go_loopw [3, 4] (fun u t wr => ∃ k : Nat, k ≤ its.length ∧ t = .int .i64 k ∧ u = .string (strOf (1 :: (Pk.shL its.length ++ (its.take k).flatMap itL))) ∧ wr.cell? ⟨p, 1, none⟩ = some (.slice ai its.length ci) ∧ wr.cell? ⟨p, 2, none⟩ = some (.slice ak 0 ck) ∧ Below w0.heap.size w0 wr) (fun _ t _ => its.length - (intOf t).toNat)
  case atStart => exact ⟨0, Nat.zero_le _, rfl, by rw [List.take_zero, List.flatMap_nil, List.append_nil]; exact str_eq (unhide HE0), q1, q2, unhide HB0⟩
  case round =>
    obtain ⟨k, hk, rfl, rfl, q1, q2, hbel⟩ := hrel
    have HBel := hide hbel
    clear hbel
    by_cases hlt : k < its.length
    · obtain ⟨b, off, rfl, hr⟩ := (unhide HR).at hlt
      obtain ⟨⟨key, val⟩, hx⟩ := get_some hlt
      have c0 := cell_keep_of (unhide HBel) (hr k _ hx).1
      have c1 := cell_keep_of (unhide HBel) (hr k _ hx).2
      simp only at c0 c1
      have hm := (unhide HM) _ (List.mem_of_getElem? hx)
      have hil : (itL (key, val)).length ≤ 452 := itL_le hm
      simp [mayI] at hm
      have HST : Hid (strOf (1 :: (Pk.shL its.length ++ (its.take k).flatMap itL)) ++ strOf (itL (key, val)) = strOf (1 :: (Pk.shL its.length ++ (its.take (k + 1)).flatMap itL))) := by
        show _ = _
        rw [take_flat itL hx, ← strOf_append]
        congr 1
        simp
      have hS : (strOf (1 :: (Pk.shL its.length ++ (its.take k).flatMap itL))).size ≤ 900000 := by
        rw [strOf_size, List.length_cons, List.length_append]
        have h1 := take_flat_le itL its k
        have h2 := unhide HFL
        have h3 := Pk.shL_le its.length
        omega
      have hI : (strOf (itL (key, val))).size ≤ 452 := by rw [strOf_size]; exact hil
      have HC := hide (fun W => refItem_any key val W (by omega) (by omega))
      generalize strOf (1 :: (Pk.shL its.length ++ (its.take k).flatMap itL)) = S at *
      generalize strOf (itL (key, val)) = V at *
      clear hx hr HR hm hil
      go_wp2_with (go_at_call 179; refine (unhide HC _).mono ?_; rintro e w3 ⟨rfl, hb⟩; have HB3 := hide hb; clear hb)
      go_roundw
      case rel => exact ⟨k + 1, by omega, by go_num, str_eq (unhide HST), cell_keep q1 (unhide HB3), cell_keep q2 (unhide HB3), below_then (unhide HBel) (unhide HB3)⟩
      case measure => simp [intOf]; omega
    · obtain rfl : k = its.length := by omega
      rw [List.take_length]
      go_wp2
      go_loop [3, 5] (fun u t => t = .int .i64 0 ∧ u = .string (strOf (1 :: (Pk.shL its.length ++ its.flatMap itL)))) (fun _ _ => 0)
      case atStart => exact ⟨rfl, rfl⟩
      case round =>
        obtain ⟨rfl, rfl⟩ := hrel
        go_wp2
        go_ret
        exact ⟨rfl, below_then (unhide HBW) (unhide HBel)⟩

set_option maxRecDepth 10000 in
set_option maxHeartbeats 4000000 in
theorem refBytesK (ai ak : Option Addr) (ci ck : Nat) (kds : List Kd) (w : World) (hr : Row kv w ak kds) (hl : kds.length ≤ 1100) (hm : ∀ x ∈ kds, mayK x = true) :
    Calls Tryz.prog 132 #[.agg #[.bool false, .slice ai 0 ci, .slice ak kds.length ck]] w fun e w' => e = .returned (.string (strOf (2 :: (Pk.shL kds.length ++ kds.flatMap kdL)))) ∧ Below w.heap.size w w' := by
  have hb0 := below_alloc w (.cells #[.bool false, .slice ai 0 ci, .slice ak kds.length ck] 43)
  have HR := hide (hr.grow hb0)
  have HBW := hide hb0
  have HM := hide hm
  have HFL : Hid ((kds.flatMap kdL).length ≤ 500000) := Nat.le_trans (flat_le kds (fun x hx => kdL_le (hm x hx))) (by omega)
  have hw : IntKind.u64.wrap (kds.length : Int) = (kds.length : Int) := by rw [IntKind.wrap_u64]; omega
  have hS0 := fun W => refShort_any 0 W (by omega)
  have HS0 := hide hS0
  have hSL := fun W => refShort_any (kds.length : Int) W (by omega)
  rw [Int.toNat_natCast] at hSL
  have HSL := hide hSL
  have hz0 : (strOf (Pk.shL (0 : Int).toNat)).size ≤ 10 := by rw [strOf_size]; exact Pk.shL_le _
  have hz1 : (strOf (Pk.shL kds.length)).size ≤ 10 := by rw [strOf_size]; exact Pk.shL_le _
  have HE0 : Hid (⟨#[2]⟩ ++ strOf (Pk.shL kds.length) = strOf (2 :: Pk.shL kds.length)) := (strOf_append [2] _).symm
  generalize strOf (Pk.shL (0 : Int).toNat) = Z at *
  generalize strOf (Pk.shL kds.length) = ZL at *
  have q0 : (w.alloc (.cells #[.bool false, .slice ai 0 ci, .slice ak kds.length ck] 43)).cell? ⟨w.heap.size, 0, none⟩ = some (.bool false) := by simp
  have q1 : (w.alloc (.cells #[.bool false, .slice ai 0 ci, .slice ak kds.length ck] 43)).cell? ⟨w.heap.size, 2, none⟩ = some (.slice ak kds.length ck) := by simp
  have q2 : (w.alloc (.cells #[.bool false, .slice ai 0 ci, .slice ak kds.length ck] 43)).cell? ⟨w.heap.size, 1, none⟩ = some (.slice ai 0 ci) := by simp
  have HBD := hide (Below.refl (w.alloc (.cells #[.bool false, .slice ai 0 ci, .slice ak kds.length ck] 43)).heap.size (w.alloc (.cells #[.bool false, .slice ai 0 ci, .slice ak kds.length ck] 43)))
  clear hr hb0 hm hS0 hSL
  go_enter Tryz.func132, Tryz.ntmps132
  go_wp2_with fail
  obtain ⟨p, hp⟩ : ∃ y, y = w.heap.size := ⟨_, rfl⟩
  rw [← hp] at q0 q1 q2 ⊢
  generalize w.alloc (.cells #[.bool false, .slice ai 0 ci, .slice ak kds.length ck] 43) = w0 at *
  clear hp
  go_wp2_with (go_at_call 178; refine (unhide HSL _).mono ?_; rintro e w2 ⟨rfl, hb⟩; have q0 := cell_keep q0 hb; have q1 := cell_keep q1 hb; have q2 := cell_keep q2 hb; have HB0 := hide (below_then (unhide HBD) hb); clear hb)
  go_loop [3, 4] (fun u t => t = .int .i64 0 ∧ u = .string (⟨#[2]⟩ ++ ZL)) (fun _ _ => 0)
  case atStart => exact ⟨rfl, rfl⟩
  case round =>
    obtain ⟨rfl, rfl⟩ := hrel
    go_wp2
    go_loopw [3, 5] (fun u t wr => ∃ k : Nat, k ≤ kds.length ∧ t = .int .i64 k ∧ u = .string (strOf (2 :: (Pk.shL kds.length ++ (kds.take k).flatMap kdL))) ∧ wr.cell? ⟨p, 2, none⟩ = some (.slice ak kds.length ck) ∧ wr.cell? ⟨p, 1, none⟩ = some (.slice ai 0 ci) ∧ Below w0.heap.size w0 wr) (fun _ t _ => kds.length - (intOf t).toNat)
    case atStart => exact ⟨0, Nat.zero_le _, rfl, by rw [List.take_zero, List.flatMap_nil, List.append_nil]; exact str_eq (unhide HE0), q1, q2, unhide HB0⟩
    case round =>
      obtain ⟨k, hk, rfl, rfl, q1, q2, hbel⟩ := hrel
      have HBel := hide hbel
      clear hbel
      by_cases hlt : k < kds.length
      · obtain ⟨b, off, rfl, hr⟩ := (unhide HR).at hlt
        obtain ⟨⟨key, val⟩, hx⟩ := get_some hlt
        have c0 := cell_keep_of (unhide HBel) (hr k _ hx).1
        have c1 := cell_keep_of (unhide HBel) (hr k _ hx).2
        simp only at c0 c1
        have hm := (unhide HM) _ (List.mem_of_getElem? hx)
        have hil : (kdL (key, val)).length ≤ 452 := kdL_le hm
        simp [mayK] at hm
        have HST : Hid (strOf (2 :: (Pk.shL kds.length ++ (kds.take k).flatMap kdL)) ++ strOf (kdL (key, val)) = strOf (2 :: (Pk.shL kds.length ++ (kds.take (k + 1)).flatMap kdL))) := by
          show _ = _
          rw [take_flat kdL hx, ← strOf_append]
          congr 1
          simp
        have hS : (strOf (2 :: (Pk.shL kds.length ++ (kds.take k).flatMap kdL))).size ≤ 900000 := by
          rw [strOf_size, List.length_cons, List.length_append]
          have h1 := take_flat_le kdL kds k
          have h2 := unhide HFL
          have h3 := Pk.shL_le kds.length
          omega
        have hI : (strOf (kdL (key, val))).size ≤ 452 := by rw [strOf_size]; exact hil
        have HC := hide (fun W => refKid_any key val W (by omega) (by omega))
        generalize strOf (2 :: (Pk.shL kds.length ++ (kds.take k).flatMap kdL)) = S at *
        generalize strOf (kdL (key, val)) = V at *
        clear hx hr HR hm hil
        go_wp2_with (go_at_call 180; refine (unhide HC _).mono ?_; rintro e w3 ⟨rfl, hb⟩; have HB3 := hide hb; clear hb)
        go_roundw
        case rel => exact ⟨k + 1, by omega, by go_num, str_eq (unhide HST), cell_keep q1 (unhide HB3), cell_keep q2 (unhide HB3), below_then (unhide HBel) (unhide HB3)⟩
        case measure => simp [intOf]; omega
      · obtain rfl : k = kds.length := by omega
        rw [List.take_length]
        go_wp2
        go_ret
        exact ⟨rfl, below_then (unhide HBW) (unhide HBel)⟩
end Go.Proofs.YtlmgmdnmghgkbaaGreatDoor.L6

/- Right, Check, Size, Encode, as the document answers: the same functions. -/
namespace Go.Proofs.YtlmgmdnmghgkbaaGreatDoor.L6
open Go.ChangeShapes Go.WideShapes Go.ChangeAt Go.RowKit

set_option maxRecDepth 10000 in
set_option maxHeartbeats 2000000 in
theorem refRight_any (n : Nd) (ai ak : Option Addr) (ci ck : Nat) (w : World) (hn : Has w n ai ak) (hil : n.its.length ≤ 1000000) (hkl : n.kds.length ≤ 1000000) :
    Calls Tryz.prog 177 #[.agg #[.bool n.leaf, .slice ai n.its.length ci, .slice ak n.kds.length ck]] w fun e w' => e = .returned (.bool (rightB n)) ∧ Below w.heap.size w w' := by
  obtain ⟨L, its, kds⟩ := n
  simp only at hil hkl
  cases L with
  | true =>
    by_cases h0 : kds.length = 0
    · obtain rfl := List.length_eq_zero_iff.1 h0
      by_cases h1 : 0 < its.length
      · have e : rightB ⟨true, its, []⟩ = rise mayI none its := by simp [rightB, len_some h1]
        rw [e]
        exact refRightI ai ak ci ck its w hn.1 hil h1
      · have e : rightB ⟨true, its, []⟩ = false := by simp [rightB, len_zero (show its.length = 0 by omega)]
        rw [e]
        have e0 : ((its.length : Int) == 0) = true := beq_iff_eq.2 (by omega)
        clear e h0 hn h1
        go_enter Tryz.func177, Tryz.ntmps177
        go_wp2
        go_ret
        exact ⟨rfl, below_alloc _ _⟩
    · have e : rightB ⟨true, its, kds⟩ = false := by simp [rightB, len_some (Nat.pos_of_ne_zero h0)]
      rw [e]
      have hp : 0 < kds.length := Nat.pos_of_ne_zero h0
      clear e hn h0
      by_cases h1 : 0 < its.length
      · have e0 : ((its.length : Int) == 0) = false := beq_eq_false_iff_ne.2 (by omega)
        clear h1
        go_enter Tryz.func177, Tryz.ntmps177
        go_wp2
        go_ret
        exact ⟨rfl, below_alloc _ _⟩
      · have e0 : ((its.length : Int) == 0) = true := beq_iff_eq.2 (by omega)
        clear h1
        go_enter Tryz.func177, Tryz.ntmps177
        go_wp2
        go_ret
        exact ⟨rfl, below_alloc _ _⟩
  | false =>
    by_cases h0 : its.length = 0
    · obtain rfl := List.length_eq_zero_iff.1 h0
      by_cases h1 : 0 < kds.length
      · have e : rightB ⟨false, [], kds⟩ = rise mayK none kds := by simp [rightB, len_some h1]
        rw [e]
        exact refRightK ai ak ci ck kds w hn.2 hkl h1
      · have e : rightB ⟨false, [], kds⟩ = false := by simp [rightB, len_zero (show kds.length = 0 by omega)]
        rw [e]
        have e0 : ((kds.length : Int) == 0) = true := beq_iff_eq.2 (by omega)
        clear e h0 hn h1
        go_enter Tryz.func177, Tryz.ntmps177
        go_wp2
        go_ret
        exact ⟨rfl, below_alloc _ _⟩
    · have e : rightB ⟨false, its, kds⟩ = false := by simp [rightB, len_some (Nat.pos_of_ne_zero h0)]
      rw [e]
      have hp : 0 < its.length := Nat.pos_of_ne_zero h0
      clear e hn h0
      by_cases h1 : 0 < kds.length
      · have e0 : ((kds.length : Int) == 0) = false := beq_eq_false_iff_ne.2 (by omega)
        clear h1
        go_enter Tryz.func177, Tryz.ntmps177
        go_wp2
        go_ret
        exact ⟨rfl, below_alloc _ _⟩
      · have e0 : ((kds.length : Int) == 0) = true := beq_iff_eq.2 (by omega)
        clear h1
        go_enter Tryz.func177, Tryz.ntmps177
        go_wp2
        go_ret
        exact ⟨rfl, below_alloc _ _⟩

theorem refBytes_any (n : Nd) (ai ak : Option Addr) (ci ck : Nat) (w : World) (hn : Has w n ai ak) (hr : rightB n = true) (hil : n.its.length ≤ 1100) (hkl : n.kds.length ≤ 1100) :
    Calls Tryz.prog 132 #[.agg #[.bool n.leaf, .slice ai n.its.length ci, .slice ak n.kds.length ck]] w fun e w' => e = .returned (.string (strOf (ndL n))) ∧ Below w.heap.size w w' := by
  obtain ⟨L, its, kds⟩ := n
  cases L with
  | true =>
    obtain ⟨rfl, _, h⟩ := right_leaf hr
    exact refBytesI ai ak ci ck its w hn.1 hil (rise_all _ _ h)
  | false =>
    obtain ⟨rfl, _, h⟩ := right_kids hr
    exact refBytesK ai ak ci ck kds w hn.2 hkl (rise_all _ _ h)

set_option maxRecDepth 10000 in
set_option maxHeartbeats 1000000 in
theorem refCheck_any (n : Nd) (ai ak : Option Addr) (ci ck : Nat) (w : World) (hn : Has w n ai ak) (hil : n.its.length ≤ 1100) (hkl : n.kds.length ≤ 1100) :
    Calls Tryz.prog 131 #[.agg #[.bool n.leaf, .slice ai n.its.length ci, .slice ak n.kds.length ck]] w fun e w' => e = .returned (.int .i64 (checkN n : Int)) ∧ Below w.heap.size w w' := by
  have hb0 := below_alloc w (.cells #[.bool n.leaf, .slice ai n.its.length ci, .slice ak n.kds.length ck] 43)
  have HB := hide hb0
  have q0 : (w.alloc (.cells #[.bool n.leaf, .slice ai n.its.length ci, .slice ak n.kds.length ck] 43)).cell? ⟨w.heap.size, 0, none⟩ = some (.bool n.leaf) := by simp
  have q1 : (w.alloc (.cells #[.bool n.leaf, .slice ai n.its.length ci, .slice ak n.kds.length ck] 43)).cell? ⟨w.heap.size, 1, none⟩ = some (.slice ai n.its.length ci) := by simp
  have q2 : (w.alloc (.cells #[.bool n.leaf, .slice ai n.its.length ci, .slice ak n.kds.length ck] 43)).cell? ⟨w.heap.size, 2, none⟩ = some (.slice ak n.kds.length ck) := by simp
  have HQ := hide (And.intro q0 (And.intro q1 q2))
  have HR := hide (refRight_any n ai ak ci ck _ (hn.grow hb0) (by omega) (by omega))
  by_cases hr : rightB n = true
  · have e : checkN n = if 1007 < (strOf (ndL n)).size then 61 else 0 := by unfold checkN; rw [if_pos hr, strOf_size]
    rw [e]
    rw [hr] at HR
    have HC := hide (fun W (hW : Below w.heap.size w W) => refBytes_any n ai ak ci ck W (hn.grow hW) hr hil hkl)
    clear q0 q1 q2 hr e hn hb0
    generalize strOf (ndL n) = T at *
    by_cases hbig : 1007 < T.size
    · rw [if_pos hbig]
      go_enter Tryz.func131, Tryz.ntmps131
      go_wp2_with (first
        | (go_at_call 177; refine (unhide HR).mono ?_; rintro x w2 ⟨rfl, hb2⟩; have z0 := cell_keep (unhide HQ).1 hb2; have z1 := cell_keep (unhide HQ).2.1 hb2; have z2 := cell_keep (unhide HQ).2.2 hb2; have HB2 := hide (below_then (unhide HB) hb2); clear hb2)
        | (go_at_call 132; refine (unhide HC _ (unhide HB2)).mono ?_; rintro x w3 ⟨rfl, hb3⟩))
      go_ret
      exact ⟨rfl, below_then (unhide HB2) hb3⟩
    · rw [if_neg hbig]
      go_enter Tryz.func131, Tryz.ntmps131
      go_wp2_with (first
        | (go_at_call 177; refine (unhide HR).mono ?_; rintro x w2 ⟨rfl, hb2⟩; have z0 := cell_keep (unhide HQ).1 hb2; have z1 := cell_keep (unhide HQ).2.1 hb2; have z2 := cell_keep (unhide HQ).2.2 hb2; have HB2 := hide (below_then (unhide HB) hb2); clear hb2)
        | (go_at_call 132; refine (unhide HC _ (unhide HB2)).mono ?_; rintro x w3 ⟨rfl, hb3⟩))
      go_ret
      exact ⟨rfl, below_then (unhide HB2) hb3⟩
  · have hr : rightB n = false := by simpa using hr
    have e : checkN n = 60 := by unfold checkN; rw [hr]; rfl
    rw [e]
    rw [hr] at HR
    clear q0 q1 q2 hr e hn hb0
    go_enter Tryz.func131, Tryz.ntmps131
    go_wp2_with (go_at_call 177; refine (unhide HR).mono ?_; rintro x w2 ⟨rfl, hb2⟩)
    go_ret
    exact ⟨rfl, below_then (unhide HB) hb2⟩

set_option maxRecDepth 10000 in
set_option maxHeartbeats 1000000 in
theorem refEncode_any (n : Nd) (ai ak : Option Addr) (ci ck : Nat) (w : World) (hn : Has w n ai ak) (hil : n.its.length ≤ 1100) (hkl : n.kds.length ≤ 1100) :
    Calls Tryz.prog 92 #[.agg #[.bool n.leaf, .slice ai n.its.length ci, .slice ak n.kds.length ck]] w fun e w' => e = .returned (.tuple #[.string (encodeN n).1, .int .i64 ((encodeN n).2 : Int)]) ∧ Below w.heap.size w w' := by
  have hb0 := below_alloc w (.cells #[.bool n.leaf, .slice ai n.its.length ci, .slice ak n.kds.length ck] 43)
  have HB := hide hb0
  have q0 : (w.alloc (.cells #[.bool n.leaf, .slice ai n.its.length ci, .slice ak n.kds.length ck] 43)).cell? ⟨w.heap.size, 0, none⟩ = some (.bool n.leaf) := by simp
  have q1 : (w.alloc (.cells #[.bool n.leaf, .slice ai n.its.length ci, .slice ak n.kds.length ck] 43)).cell? ⟨w.heap.size, 1, none⟩ = some (.slice ai n.its.length ci) := by simp
  have q2 : (w.alloc (.cells #[.bool n.leaf, .slice ai n.its.length ci, .slice ak n.kds.length ck] 43)).cell? ⟨w.heap.size, 2, none⟩ = some (.slice ak n.kds.length ck) := by simp
  have HQ := hide (And.intro q0 (And.intro q1 q2))
  have HR := hide (refCheck_any n ai ak ci ck _ (hn.grow hb0) hil hkl)
  by_cases h0 : checkN n = 0
  · have e : encodeN n = (strOf (ndL n), 0) := by unfold encodeN; rw [if_pos h0]
    rw [e]
    have HC := hide (fun W (hW : Below w.heap.size w W) => refBytes_any n ai ak ci ck W (hn.grow hW) (checkN_right h0) hil hkl)
    rw [h0] at HR
    clear q0 q1 q2 h0 e hn hb0
    go_enter Tryz.func92, Tryz.ntmps92
    go_wp2_with (first
      | (go_at_call 131; refine (unhide HR).mono ?_; rintro x w2 ⟨rfl, hb2⟩; have z0 := cell_keep (unhide HQ).1 hb2; have z1 := cell_keep (unhide HQ).2.1 hb2; have z2 := cell_keep (unhide HQ).2.2 hb2; have HB2 := hide (below_then (unhide HB) hb2); clear hb2)
      | (go_at_call 132; refine (unhide HC _ (unhide HB2)).mono ?_; rintro x w3 ⟨rfl, hb3⟩))
    go_ret2
    exact ⟨rfl, below_then (unhide HB2) hb3⟩
  · have e : encodeN n = (⟨#[]⟩, checkN n) := by unfold encodeN; rw [if_neg h0]
    rw [e]
    generalize checkN n = k at *
    have f0 : ((k : Int) == 0) = false := beq_eq_false_iff_ne.2 (by omega)
    have f1 : ((k : Int) != 0) = true := bne_iff_ne.2 (by omega)
    clear q0 q1 q2 h0 e hn hb0
    go_enter Tryz.func92, Tryz.ntmps92
    go_wp2_with (go_at_call 131; refine (unhide HR).mono ?_; rintro x w2 ⟨rfl, hb2⟩)
    go_ret2
    exact ⟨rfl, below_then (unhide HB) hb2⟩
end Go.Proofs.YtlmgmdnmghgkbaaGreatDoor.L6

/- Decode, as the document answers. -/
namespace Go.Proofs.YtlmgmdnmghgkbaaGreatDoor.L6
open Go.ChangeShapes Go.WideShapes Go.ChangeAt Go.RowKit

set_option maxRecDepth 10000 in
set_option maxHeartbeats 4000000 in
theorem refDecode_bad (S : ByteArray) (w : World) (hS : S.size ≤ 4096) (h : 1007 < S.size ∨ ¬ ((byteR S 0).1 = 1 ∨ (byteR S 0).1 = 2) ∨ 1007 < (shortR (byteR S 0).2.1 (byteR S 0).2.2).1) :
    Calls Tryz.prog 146 #[.string S] w fun x w' => DecSaid (nd0, 60) w x w' := by
  have hle := byteR_le S 0
  have hle2 := shortR_le (byteR S 0).2.1 (byteR S 0).2.2
  have hcl := shortR_lt (byteR S 0).2.1 (byteR S 0).2.2
  have HC1 := hide (fun W G (hW : Rm W G S 0) => refByte_any G 0 S W hW (by omega))
  have HC2 := hide (fun W G (hW : Rm W G (byteR S 0).2.1 (byteR S 0).2.2) => refShortR_any G _ _ W hW (by omega))
  have hb0 := below_alloc w (.cells #[.bool false, .slice none 0 0, .slice none 0 0] 43)
  have hb1 := below_alloc (w.alloc (.cells #[.bool false, .slice none 0 0, .slice none 0 0] 43)) (.cells #[.string S, .int .i64 0] 296)
  have hsz : (w.alloc (.cells #[.bool false, .slice none 0 0, .slice none 0 0] 43)).heap.size = w.heap.size + 1 := by simp
  have hrm := Rm.new (w.alloc (.cells #[.bool false, .slice none 0 0, .slice none 0 0] 43)) S
  rw [hsz] at hrm
  have HP := hide ((Nblk.new w false none none 0 0 0 0).below hb1)
  have HR := hide hrm
  have HB := hide (below_then hb0 hb1)
  clear hb0 hb1 hsz hrm
  go_enter Tryz.func146, Tryz.ntmps146
  go_wp2_with fail
  obtain ⟨p, hp⟩ : ∃ y, y = w.heap.size := ⟨_, rfl⟩
  rw [← hp] at HP HR ⊢
  have hpw : w.heap.size ≤ p := Nat.le_of_eq hp.symm
  clear hp
  obtain ⟨g, hg⟩ : ∃ y, y = p + 1 := ⟨_, rfl⟩
  rw [← hg] at HR ⊢
  have hgw : w.heap.size ≤ g := by omega
  have hpg : p ≠ g := by omega
  clear hg
  generalize (w.alloc (.cells #[.bool false, .slice none 0 0, .slice none 0 0] 43)).alloc (.cells #[.string S, .int .i64 0] 296) = w1 at *
  refine (unhide HC1 _ g (unhide HR)).mono ?_
  rintro x w2 ⟨rfl, ht⟩
  have HP := hide ((unhide HP).toldM ht hpg)
  have HR := hide ht.2
  have HB := hide ((unhide HB).grown ht.1 (unhide HB).size (fun k hk => by injection hk with hk; omega))
  clear ht HC1
  generalize byteR S 0 = T at *
  go_wp2_with fail
  refine (unhide HC2 _ g (unhide HR)).mono ?_
  rintro x w3 ⟨rfl, ht⟩
  have HP := hide ((unhide HP).toldM ht hpg)
  have HR := hide ht.2
  have HB := hide ((unhide HB).grown ht.1 (unhide HB).size (fun k hk => by injection hk with hk; omega))
  clear ht HC2
  generalize shortR T.2.1 T.2.2 = U at *
  have c0 := (unhide HP).cell0
  have c1 := (unhide HP).cell1
  have c2 := (unhide HP).cell2
  have f0 := (unhide HP).free 0
  have f1 := (unhide HP).free 1
  have f2 := (unhide HP).free 2
  by_cases k1 : 1007 < S.size
  · clear h
    go_wp2
    refine bodyPost_ret (v := .tuple #[.agg #[.bool false, .slice none 0 0, .slice none 0 0], .int .i64 60]) ?_ rfl (dec_zero w _ _ rfl (below_store (below_store (below_store (unhide HB) p 0 _ hpw) p 1 _ hpw) p 2 _ hpw))
    rw [results_cell_tmp rfl]
    go_simp
  · by_cases k2 : (T.1 = 1 ∨ T.1 = 2)
    · have k3 : 1007 < U.1 := by omega
      have k3' : (1007 : Int) < (U.1 : Int) := by omega
      rcases k2 with k2 | k2
      · have g1 : ((T.1 : Int) == 1) = true := beq_iff_eq.2 (by omega)
        have g2 : ((T.1 : Int) != 1) = false := by rw [bne, g1]; rfl
        clear h k2 k3
        go_wp2
        refine bodyPost_ret (v := .tuple #[.agg #[.bool false, .slice none 0 0, .slice none 0 0], .int .i64 60]) ?_ rfl (dec_zero w _ _ rfl (below_store (below_store (below_store (unhide HB) p 0 _ hpw) p 1 _ hpw) p 2 _ hpw))
        rw [results_cell_tmp rfl]
        go_simp
      · have g1 : ((T.1 : Int) == 1) = false := beq_eq_false_iff_ne.2 (by omega)
        have g2 : ((T.1 : Int) != 1) = true := by rw [bne, g1]; rfl
        have g3 : ((T.1 : Int) == 2) = true := beq_iff_eq.2 (by omega)
        have g4 : ((T.1 : Int) != 2) = false := by rw [bne, g3]; rfl
        clear h k2 k3
        go_wp2
        refine bodyPost_ret (v := .tuple #[.agg #[.bool false, .slice none 0 0, .slice none 0 0], .int .i64 60]) ?_ rfl (dec_zero w _ _ rfl (below_store (below_store (below_store (unhide HB) p 0 _ hpw) p 1 _ hpw) p 2 _ hpw))
        rw [results_cell_tmp rfl]
        go_simp
    · have g1 : ((T.1 : Int) == 1) = false := beq_eq_false_iff_ne.2 (by omega)
      have g2 : ((T.1 : Int) != 1) = true := by rw [bne, g1]; rfl
      have g3 : ((T.1 : Int) == 2) = false := beq_eq_false_iff_ne.2 (by omega)
      have g4 : ((T.1 : Int) != 2) = true := by rw [bne, g3]; rfl
      clear h k2
      go_wp2
      refine bodyPost_ret (v := .tuple #[.agg #[.bool false, .slice none 0 0, .slice none 0 0], .int .i64 60]) ?_ rfl (dec_zero w _ _ rfl (below_store (below_store (below_store (unhide HB) p 0 _ hpw) p 1 _ hpw) p 2 _ hpw))
      rw [results_cell_tmp rfl]
      go_simp
end Go.Proofs.YtlmgmdnmghgkbaaGreatDoor.L6

/- Decode, as the document answers: nodes with kids. -/
namespace Go.Proofs.YtlmgmdnmghgkbaaGreatDoor.L6
open Go.ChangeShapes Go.WideShapes Go.ChangeAt Go.RowKit

theorem place_bad {n : Nat} (h : 4095 < n) (h2 : n < 18446744073709551616) (k : ByteArray) : mayK (k, wrap64 (n : Int)) = false := by
  cases hm : mayK (k, wrap64 (n : Int)) with
  | false => rfl
  | true =>
    simp [mayK] at hm
    unfold wrap64 at hm
    omega
/-- a kid whose place is beyond: the node isn't right -/
theorem kids_bad {C c : Nat} {L1 L : ByteArray} {e1 : Nat} {pre : List Kd} (h : Lat kidR C L1 e1 pre (c + 1) L 0) (hm : mayK (kidR L 0).1 = false) : rightB ⟨false, [], (listR kidR C L1 e1).1⟩ ≠ true := by
  intro hr
  obtain ⟨_, _, hrise⟩ := right_kids hr
  have := rise_all _ _ hrise (kidR L 0).1 (by rw [h.same, listR_next]; simp)
  rw [hm] at this
  simp at this

set_option maxRecDepth 10000 in
set_option maxHeartbeats 8000000 in
theorem refDecode_kids (S : ByteArray) (w : World) (h1 : S.size ≤ 1007) (h2 : (byteR S 0).1 = 2) (h3 : (shortR (byteR S 0).2.1 (byteR S 0).2.2).1 ≤ 1007) :
    Calls Tryz.prog 146 #[.string S] w fun x w' => DecSaid (decodeN S) w x w' := by
  have HDC := hide (refDec_in (S := S) (by omega))
  have HRN : Hid (readN S = (⟨false, [], (listR kidR (shortR (byteR S 0).2.1 (byteR S 0).2.2).1 (shortR (byteR S 0).2.1 (byteR S 0).2.2).2.1 (shortR (byteR S 0).2.1 (byteR S 0).2.2).2.2).1⟩, (listR kidR (shortR (byteR S 0).2.1 (byteR S 0).2.2).1 (shortR (byteR S 0).2.1 (byteR S 0).2.2).2.1 (shortR (byteR S 0).2.1 (byteR S 0).2.2).2.2).2)) := by
    show _ = _
    unfold readN
    rw [if_neg (by omega), if_pos h2]
    rfl
  have hle := byteR_le S 0
  have hle2 := shortR_le (byteR S 0).2.1 (byteR S 0).2.2
  have hcl := shortR_lt (byteR S 0).2.1 (byteR S 0).2.2
  have HC1 := hide (fun W G (hW : Rm W G S 0) => refByte_any G 0 S W hW (by omega))
  have HC2 := hide (fun W G (hW : Rm W G (byteR S 0).2.1 (byteR S 0).2.2) => refShortR_any G _ _ W hW (by omega))
  have hb0 := below_alloc w (.cells #[.bool false, .slice none 0 0, .slice none 0 0] 43)
  have hb1 := below_alloc (w.alloc (.cells #[.bool false, .slice none 0 0, .slice none 0 0] 43)) (.cells #[.string S, .int .i64 0] 296)
  have hsz : (w.alloc (.cells #[.bool false, .slice none 0 0, .slice none 0 0] 43)).heap.size = w.heap.size + 1 := by simp
  have hrm := Rm.new (w.alloc (.cells #[.bool false, .slice none 0 0, .slice none 0 0] 43)) S
  rw [hsz] at hrm
  have HP := hide ((Nblk.new w false none none 0 0 0 0).below hb1)
  have HR := hide hrm
  have HB := hide (below_then hb0 hb1)
  clear hb0 hb1 hsz hrm
  go_enter Tryz.func146, Tryz.ntmps146
  go_wp2_with fail
  obtain ⟨p, hp⟩ : ∃ y, y = w.heap.size := ⟨_, rfl⟩
  rw [← hp] at HP HR ⊢
  have hpw : w.heap.size ≤ p := Nat.le_of_eq hp.symm
  clear hp
  obtain ⟨g, hg⟩ : ∃ y, y = p + 1 := ⟨_, rfl⟩
  rw [← hg] at HR ⊢
  have hgw : w.heap.size ≤ g := by omega
  have hpg : p ≠ g := by omega
  clear hg
  generalize (w.alloc (.cells #[.bool false, .slice none 0 0, .slice none 0 0] 43)).alloc (.cells #[.string S, .int .i64 0] 296) = w1 at *
  refine (unhide HC1 _ g (unhide HR)).mono ?_
  rintro x w2 ⟨rfl, ht⟩
  have HP := hide ((unhide HP).toldM ht hpg)
  have HR := hide ht.2
  have HB := hide ((unhide HB).grown ht.1 (unhide HB).size (fun k hk => by injection hk with hk; omega))
  clear ht HC1
  generalize byteR S 0 = T at *
  go_wp2_with fail
  refine (unhide HC2 _ g (unhide HR)).mono ?_
  rintro x w3 ⟨rfl, ht⟩
  have HP := hide ((unhide HP).toldM ht hpg)
  have HR := hide ht.2
  have HB := hide ((unhide HB).grown ht.1 (unhide HB).size (fun k hk => by injection hk with hk; omega))
  clear ht HC2
  generalize shortR T.2.1 T.2.2 = U at *
  have g1 : ((T.1 : Int) == 1) = false := beq_eq_false_iff_ne.2 (by omega)
  have g2 : ((T.1 : Int) != 1) = true := by rw [bne, g1]; rfl
  have g3 : ((T.1 : Int) == 2) = true := beq_iff_eq.2 (by omega)
  have g4 : ((T.1 : Int) != 2) = false := by rw [bne, g3]; rfl
  have k1 : ¬ (1007 : Int) < (S.size : Int) := by omega
  have k3 : ¬ (1007 : Int) < (U.1 : Int) := by omega
  obtain ⟨C, L1, e1⟩ := U
  simp only at h3 hle2 hcl HRN k3 HR ⊢
  have hL1 : L1.size ≤ 1007 := by omega
  clear h2
  go_wp2_with fail
  have HQ := hide (Nblk.new w3 false none none 0 0 0 0)
  have hbq := below_alloc w3 (.cells #[.bool false, .slice none 0 0, .slice none 0 0] 43)
  obtain ⟨q, hq⟩ : ∃ y, y = w3.heap.size := ⟨_, rfl⟩
  have hqw : w.heap.size ≤ q := by have := (unhide HB).size; omega
  have hpq : p ≠ q := by have := (unhide HP).lt; omega
  rw [← hq] at HQ ⊢
  clear hq
  have HD0 : Hid (Dst w p g q (w3.alloc (.cells #[.bool false, .slice none 0 0, .slice none 0 0] 43)).heap.size (w3.alloc (.cells #[.bool false, .slice none 0 0, .slice none 0 0] 43)) L1 e1 false none 0 0 none 0 0) :=
    ⟨below_then (unhide HB) hbq, (unhide HP).below hbq, (unhide HR).below hbq, unhide HQ, hpq, hpw, hgw, hqw, Nat.le_trans (unhide HB).size hbq.size, Nat.le_refl _⟩
  generalize w3.alloc (.cells #[.bool false, .slice none 0 0, .slice none 0 0] 43) = wq at *
  obtain ⟨B, hB⟩ : ∃ y, y = wq.heap.size := ⟨_, rfl⟩
  rw [← hB] at HD0
  clear hB HQ hbq HP HR HB hpq
  have hwC : wrap64 (C : Int) = (C : Int) := by unfold wrap64; omega
  go_wp2
  go_loopw [8] (fun t wr => ∃ (i : Nat) (pre : List Kd) (L : ByteArray) (e : Nat) (a : Option Addr) (cap : Nat), i ≤ C ∧ t = .int .i64 i ∧ Lat kidR C L1 e1 pre (C - i) L e ∧ OwnE kv 153 B wr (.slice a pre.length cap) pre ∧ Dst w p g q B wr L e false none 0 0 a pre.length cap) (fun t _ => C - (intOf t).toNat)
  case atStart => exact ⟨0, [], L1, e1, none, 0, Nat.zero_le _, rfl, Lat.start _ _ _ _, OwnE.nil _ _ _ _, unhide HD0⟩
  case round =>
    clear HD0
    obtain ⟨i, pre, L, e, a, cap, hi, rfl, hlat, hown, hd⟩ := hrel
    have hsz := hlat.less
    have HLat := hide hlat
    have HO := hide hown
    have HD := hide hd
    have r1 := hd.rd.cell1
    have hpl : pre.length ≤ 2000 := by
      have h := listR_len (f := kidR) kidR_lt C L1 e1
      rw [hlat.same, List.length_append] at h
      omega
    clear hlat hown hd
    by_cases hlt : i < C
    · have v4 : (i : Int) < (C : Int) := by omega
      by_cases he : e = 0
      · subst he
        obtain ⟨c', hc'⟩ : ∃ c', C - i = c' + 1 := ⟨C - i - 1, by omega⟩
        have hnx := unhide HLat
        rw [hc'] at hnx
        have hc2 : c' = C - (i + 1) := by omega
        have hnx2 := hnx.next kidR_le kidR_lt
        rw [hc2] at hnx2
        have HNX := hide hnx2
        have HBAD := hide (fun h => kids_bad hnx h)
        clear hnx hnx2 hc2 hc'
        have HT1 := hide (fun W (hW : Rm W g L 0) => refTextR_any g 0 L 272 W hW (by omega) (by omega))
        have hle3 := textR_le L 0 272
        have HT2 := hide (fun W (hW : Rm W g (textR L 0 272).2.1 (textR L 0 272).2.2) => refShortR_any g _ _ W hW (by omega))
        have hcl2 := shortR_lt (textR L 0 272).2.1 (textR L 0 272).2.2
        have e1' : (kidR L 0).1 = ((textR L 0 272).1, wrap64 ((shortR (textR L 0 272).2.1 (textR L 0 272).2.2).1 : Int)) := rfl
        have e2' : (kidR L 0).2 = ((shortR (textR L 0 272).2.1 (textR L 0 272).2.2).2.1, (shortR (textR L 0 272).2.1 (textR L 0 272).2.2).2.2) := rfl
        rw [e1', e2'] at HNX
        rw [e1'] at HBAD
        clear e1' e2' hle3
        generalize textR L 0 272 = X at *
        obtain ⟨K1, L2, e2⟩ := X
        simp only at HT1 HT2 HNX HBAD hcl2
        generalize shortR L2 e2 = Y at *
        obtain ⟨N2, L3, e3⟩ := Y
        simp only at HT2 HNX HBAD hcl2
        go_wp2_with fail
        refine (unhide HT1 _ (unhide HD).rd).mono ?_
        rintro x w4 ⟨rfl, ht⟩
        have HOX := hide ((unhide HO).toldM (by decide) (unhide HD).rd ht)
        have HDX := hide ((unhide HD).told ht)
        clear ht HO HD HT1 r1
        have d0 := (unhide HDX).nd.cell0
        go_wp2_with fail
        refine (unhide HT2 _ (unhide HDX).rd).mono ?_
        rintro x w5 ⟨rfl, ht⟩
        have HOZ := hide ((unhide HOX).toldM (by decide) (unhide HDX).rd ht)
        have HDZ := hide ((unhide HDX).told ht)
        clear ht HOX HDX HT2 d0
        by_cases hbig : 4095 < N2
        · have hb' : (4095 : Int) < (N2 : Int) := by omega
          have HN2 : Hid (decodeN S = (nd0, 60)) := by
            show _ = _
            rw [unhide HDC, unhide HRN]
            exact if_neg (fun h => unhide HBAD (place_bad hbig hcl2 K1) h.2.2)
          have c0 := (unhide HDZ).res.cell0
          have c1 := (unhide HDZ).res.cell1
          have c2 := (unhide HDZ).res.cell2
          have f0 := (unhide HDZ).res.free 0
          have f1 := (unhide HDZ).res.free 1
          have f2 := (unhide HDZ).res.free 2
          clear hbig HBAD HDC HRN HNX
          go_wp2
          refine bodyPost_ret (v := .tuple #[.agg #[.bool false, .slice none 0 0, .slice none 0 0], .int .i64 60]) ?_ rfl ?_
          · rw [results_cell_tmp rfl]
            go_simp
          · rw [unhide HN2]
            exact dec_zero w _ _ rfl (below_store (below_store (below_store (unhide HDZ).bel p 0 _ hpw) p 1 _ hpw) p 2 _ hpw)
        · have hb' : ¬ (4095 : Int) < (N2 : Int) := by omega
          have hwN : wrap64 (N2 : Int) = (N2 : Int) := by unfold wrap64; omega
          rw [hwN] at HNX
          clear hbig HBAD hcl2
          have d2 := (unhide HDZ).nd.cell2
          have hBw : B ≤ w5.heap.size := (unhide HDZ).bz
          go_wp2_with (at_builtin; refine app_gen (news := [.string K1, .int .i64 (N2 : Int)]) Tryz.underlying41 info153 rfl (by decide) rfl _ _ rfl rfl rfl (unhide HOZ) hBw rfl ?_ ?_ ?_ ?_; (exact pair_one rfl); omega; omega; intro aC capC wC ho' hg' _; have HOC := hide (OwnE.snoc (sv := kv) (x := (K1, (N2 : Int))) ho'); have HDC2 := hide ((unhide HDZ).app (unhide HOZ) (by decide) (by decide) hg'); have mC := (unhide HDC2).nd.cell2; have fC := (unhide HDC2).nd.free 2; clear ho' hg')
          have HD9 := hide ((unhide HDC2).set2 aC (pre.length + 1) capC)
          have HO9 := hide ((unhide HOC).set (unhide HDC2).nd (by decide) 2 (.slice aC (pre.length + 1) capC))
          clear HDC2 HOC HDZ HOZ mC fC d2
          go_roundw
          case rel => exact ⟨i + 1, pre ++ [(K1, (N2 : Int))], L3, e3, aC, capC, by omega, by go_num, unhide HNX, by rw [List.length_append]; exact unhide HO9, by rw [List.length_append]; exact unhide HD9⟩
          case measure => simp [intOf]; omega
      · have HL := hide ((unhide HLat).err he)
        have f0' : ((e : Int) == 0) = false := beq_eq_false_iff_ne.2 (by omega)
        clear HLat
        have HN : Hid (decodeN S = if e = 0 ∧ L.size = 0 ∧ rightB ⟨false, [], pre⟩ = true then (⟨false, [], pre⟩, 0) else (nd0, 60)) := by
          show _ = _
          rw [unhide HDC, unhide HRN, unhide HL]
        clear HL HDC HRN
        go_wp2_with fail
        refine (refEnd_any g e L wr (unhide HD).rd).mono ?_
        rintro x w5 ⟨rfl, hw⟩
        have hw := hw.symm
        subst hw
        have c0 := (unhide HD).res.cell0
        have c1 := (unhide HD).res.cell1
        have c2 := (unhide HD).res.cell2
        have f0 := (unhide HD).res.free 0
        have f1 := (unhide HD).res.free 1
        have f2 := (unhide HD).res.free 2
        have d0 := (unhide HD).nd.cell0
        have d1 := (unhide HD).nd.cell1
        have d2 := (unhide HD).nd.cell2
        have e0 : endR L e ≠ 0 := by unfold endR; rw [if_pos he]; exact he
        have HN2 := hide ((unhide HN).trans (if_neg (fun h => he h.1)))
        generalize endR L e = E at *
        have g0 : ((E : Int) == 0) = false := beq_eq_false_iff_ne.2 (by omega)
        have g1 : ((E : Int) != 0) = true := bne_iff_ne.2 (by omega)
        clear he HN e0
        go_wp2
        refine bodyPost_ret (v := .tuple #[.agg #[.bool false, .slice none 0 0, .slice none 0 0], .int .i64 60]) ?_ rfl ?_
        · rw [results_cell_tmp rfl]
          go_simp
        · rw [unhide HN2]
          exact dec_zero w _ _ rfl (below_store (below_store (below_store (unhide HD).bel p 0 _ hpw) p 1 _ hpw) p 2 _ hpw)
    · obtain rfl : i = C := by omega
      have hd0 := unhide HLat
      rw [Nat.sub_self] at hd0
      have HL := hide hd0.done
      clear HLat hd0
      have HN : Hid (decodeN S = if e = 0 ∧ L.size = 0 ∧ rightB ⟨false, [], pre⟩ = true then (⟨false, [], pre⟩, 0) else (nd0, 60)) := by
        show _ = _
        rw [unhide HDC, unhide HRN, unhide HL]
      clear HL HDC HRN
      go_wp2_with fail
      refine (refEnd_any g e L wr (unhide HD).rd).mono ?_
      rintro x w5 ⟨rfl, hw⟩
      have hw := hw.symm
      subst hw
      have c0 := (unhide HD).res.cell0
      have c1 := (unhide HD).res.cell1
      have c2 := (unhide HD).res.cell2
      have f0 := (unhide HD).res.free 0
      have f1 := (unhide HD).res.free 1
      have f2 := (unhide HD).res.free 2
      have d0 := (unhide HD).nd.cell0
      have d1 := (unhide HD).nd.cell1
      have d2 := (unhide HD).nd.cell2
      by_cases hen : e = 0 ∧ L.size = 0
      · have e0 : endR L e = 0 := by unfold endR; rw [if_neg (by omega), if_pos hen.2]
        rw [e0]
        have HH : Hid (Has wr ⟨false, [], pre⟩ none a) := ⟨.inl rfl, (unhide HO).row⟩
        go_wp2_with fail
        refine (refRight_any ⟨false, [], pre⟩ none a 0 cap wr (unhide HH) (by show _ ≤ _; simp; try omega) (by show _ ≤ _; simp; try omega)).mono ?_
        rintro x w6 ⟨rfl, hb⟩
        have HB6 := hide (below_then (unhide HD).bel hb)
        have HH6 := hide ((unhide HH).grow hb)
        have HP6 := hide ((unhide HD).res.below hb)
        have c0 := cell_keep c0 hb
        have c1 := cell_keep c1 hb
        have c2 := cell_keep c2 hb
        have f0 := (unhide HP6).free 0
        have f1 := (unhide HP6).free 1
        have f2 := (unhide HP6).free 2
        have d0 := cell_keep d0 hb
        have d1 := cell_keep d1 hb
        have d2 := cell_keep d2 hb
        clear hb
        by_cases hri : rightB ⟨false, [], pre⟩ = true
        · have HN2 := hide ((unhide HN).trans (if_pos ⟨hen.1, hen.2, hri⟩))
          rw [hri]
          clear hri HN
          go_wp2
          have hst := (unhide HP6).store false none 0 0 a pre.length cap (unhide HH6)
          refine bodyPost_ret (v := .tuple #[.agg #[.bool false, .slice none 0 0, .slice a pre.length cap], .int .i64 0]) ?_ rfl ?_
          · rw [results_cell_tmp rfl]
            go_simp
          · rw [unhide HN2]
            exact ⟨none, a, 0, cap, rfl, hst.2, below_store (below_store (below_store (unhide HB6) p 0 _ hpw) p 1 _ hpw) p 2 _ hpw⟩
        · have hri : rightB ⟨false, [], pre⟩ = false := by simpa using hri
          have HN2 := hide ((unhide HN).trans (if_neg (fun h => by rw [hri] at h; simp at h)))
          rw [hri]
          clear hri HN
          go_wp2
          refine bodyPost_ret (v := .tuple #[.agg #[.bool false, .slice none 0 0, .slice none 0 0], .int .i64 60]) ?_ rfl ?_
          · rw [results_cell_tmp rfl]
            go_simp
          · rw [unhide HN2]
            exact dec_zero w _ _ rfl (below_store (below_store (below_store (unhide HB6) p 0 _ hpw) p 1 _ hpw) p 2 _ hpw)
      · have e0 : endR L e ≠ 0 := by
          unfold endR
          by_cases hx : e = 0
          · rw [if_neg (by omega), if_neg (fun h => hen ⟨hx, h⟩)]
            decide
          · rw [if_pos hx]
            exact hx
        have HN2 := hide ((unhide HN).trans (if_neg (fun h => hen ⟨h.1, h.2.1⟩)))
        generalize endR L e = E at *
        have g0 : ((E : Int) == 0) = false := beq_eq_false_iff_ne.2 (by omega)
        have g1 : ((E : Int) != 0) = true := bne_iff_ne.2 (by omega)
        clear hen HN e0
        go_wp2
        refine bodyPost_ret (v := .tuple #[.agg #[.bool false, .slice none 0 0, .slice none 0 0], .int .i64 60]) ?_ rfl ?_
        · rw [results_cell_tmp rfl]
          go_simp
        · rw [unhide HN2]
          exact dec_zero w _ _ rfl (below_store (below_store (below_store (unhide HD).bel p 0 _ hpw) p 1 _ hpw) p 2 _ hpw)
end Go.Proofs.YtlmgmdnmghgkbaaGreatDoor.L6

/- Decode, as the document answers: leaves. -/
namespace Go.Proofs.YtlmgmdnmghgkbaaGreatDoor.L6
open Go.ChangeShapes Go.WideShapes Go.ChangeAt Go.RowKit

set_option maxRecDepth 10000 in
set_option maxHeartbeats 8000000 in
theorem refDecode_items (S : ByteArray) (w : World) (h1 : S.size ≤ 1007) (h2 : (byteR S 0).1 = 1) (h3 : (shortR (byteR S 0).2.1 (byteR S 0).2.2).1 ≤ 1007) :
    Calls Tryz.prog 146 #[.string S] w fun x w' => DecSaid (decodeN S) w x w' := by
  have HDC := hide (refDec_in (S := S) (by omega))
  have HRN : Hid (readN S = (⟨true, (listR itemR (shortR (byteR S 0).2.1 (byteR S 0).2.2).1 (shortR (byteR S 0).2.1 (byteR S 0).2.2).2.1 (shortR (byteR S 0).2.1 (byteR S 0).2.2).2.2).1, []⟩, (listR itemR (shortR (byteR S 0).2.1 (byteR S 0).2.2).1 (shortR (byteR S 0).2.1 (byteR S 0).2.2).2.1 (shortR (byteR S 0).2.1 (byteR S 0).2.2).2.2).2)) := by
    show _ = _
    unfold readN
    rw [if_pos h2]
    rfl
  have hle := byteR_le S 0
  have hle2 := shortR_le (byteR S 0).2.1 (byteR S 0).2.2
  have hcl := shortR_lt (byteR S 0).2.1 (byteR S 0).2.2
  have HC1 := hide (fun W G (hW : Rm W G S 0) => refByte_any G 0 S W hW (by omega))
  have HC2 := hide (fun W G (hW : Rm W G (byteR S 0).2.1 (byteR S 0).2.2) => refShortR_any G _ _ W hW (by omega))
  have hb0 := below_alloc w (.cells #[.bool false, .slice none 0 0, .slice none 0 0] 43)
  have hb1 := below_alloc (w.alloc (.cells #[.bool false, .slice none 0 0, .slice none 0 0] 43)) (.cells #[.string S, .int .i64 0] 296)
  have hsz : (w.alloc (.cells #[.bool false, .slice none 0 0, .slice none 0 0] 43)).heap.size = w.heap.size + 1 := by simp
  have hrm := Rm.new (w.alloc (.cells #[.bool false, .slice none 0 0, .slice none 0 0] 43)) S
  rw [hsz] at hrm
  have HP := hide ((Nblk.new w false none none 0 0 0 0).below hb1)
  have HR := hide hrm
  have HB := hide (below_then hb0 hb1)
  clear hb0 hb1 hsz hrm
  go_enter Tryz.func146, Tryz.ntmps146
  go_wp2_with fail
  obtain ⟨p, hp⟩ : ∃ y, y = w.heap.size := ⟨_, rfl⟩
  rw [← hp] at HP HR ⊢
  have hpw : w.heap.size ≤ p := Nat.le_of_eq hp.symm
  clear hp
  obtain ⟨g, hg⟩ : ∃ y, y = p + 1 := ⟨_, rfl⟩
  rw [← hg] at HR ⊢
  have hgw : w.heap.size ≤ g := by omega
  have hpg : p ≠ g := by omega
  clear hg
  generalize (w.alloc (.cells #[.bool false, .slice none 0 0, .slice none 0 0] 43)).alloc (.cells #[.string S, .int .i64 0] 296) = w1 at *
  refine (unhide HC1 _ g (unhide HR)).mono ?_
  rintro x w2 ⟨rfl, ht⟩
  have HP := hide ((unhide HP).toldM ht hpg)
  have HR := hide ht.2
  have HB := hide ((unhide HB).grown ht.1 (unhide HB).size (fun k hk => by injection hk with hk; omega))
  clear ht HC1
  generalize byteR S 0 = T at *
  go_wp2_with fail
  refine (unhide HC2 _ g (unhide HR)).mono ?_
  rintro x w3 ⟨rfl, ht⟩
  have HP := hide ((unhide HP).toldM ht hpg)
  have HR := hide ht.2
  have HB := hide ((unhide HB).grown ht.1 (unhide HB).size (fun k hk => by injection hk with hk; omega))
  clear ht HC2
  generalize shortR T.2.1 T.2.2 = U at *
  have g1 : ((T.1 : Int) == 1) = true := beq_iff_eq.2 (by omega)
  have g2 : ((T.1 : Int) != 1) = false := by rw [bne, g1]; rfl
  have k1 : ¬ (1007 : Int) < (S.size : Int) := by omega
  have k3 : ¬ (1007 : Int) < (U.1 : Int) := by omega
  obtain ⟨C, L1, e1⟩ := U
  simp only at h3 hle2 hcl HRN k3 HR ⊢
  have hL1 : L1.size ≤ 1007 := by omega
  clear h2
  go_wp2_with fail
  have HQ := hide (Nblk.new w3 true none none 0 0 0 0)
  have hbq := below_alloc w3 (.cells #[.bool true, .slice none 0 0, .slice none 0 0] 43)
  obtain ⟨q, hq⟩ : ∃ y, y = w3.heap.size := ⟨_, rfl⟩
  have hqw : w.heap.size ≤ q := by have := (unhide HB).size; omega
  have hpq : p ≠ q := by have := (unhide HP).lt; omega
  rw [← hq] at HQ ⊢
  clear hq
  have HD0 : Hid (Dst w p g q (w3.alloc (.cells #[.bool true, .slice none 0 0, .slice none 0 0] 43)).heap.size (w3.alloc (.cells #[.bool true, .slice none 0 0, .slice none 0 0] 43)) L1 e1 true none 0 0 none 0 0) :=
    ⟨below_then (unhide HB) hbq, (unhide HP).below hbq, (unhide HR).below hbq, unhide HQ, hpq, hpw, hgw, hqw, Nat.le_trans (unhide HB).size hbq.size, Nat.le_refl _⟩
  generalize w3.alloc (.cells #[.bool true, .slice none 0 0, .slice none 0 0] 43) = wq at *
  obtain ⟨B, hB⟩ : ∃ y, y = wq.heap.size := ⟨_, rfl⟩
  rw [← hB] at HD0
  clear hB HQ hbq HP HR HB hpq
  have hwC : wrap64 (C : Int) = (C : Int) := by unfold wrap64; omega
  go_wp2
  go_loopw [8] (fun t wr => ∃ (i : Nat) (pre : List It) (L : ByteArray) (e : Nat) (a : Option Addr) (cap : Nat), i ≤ C ∧ t = .int .i64 i ∧ Lat itemR C L1 e1 pre (C - i) L e ∧ OwnE Value.string 126 B wr (.slice a pre.length cap) pre ∧ Dst w p g q B wr L e true a pre.length cap none 0 0) (fun t _ => C - (intOf t).toNat)
  case atStart => exact ⟨0, [], L1, e1, none, 0, Nat.zero_le _, rfl, Lat.start _ _ _ _, OwnE.nil _ _ _ _, unhide HD0⟩
  case round =>
    clear HD0
    obtain ⟨i, pre, L, e, a, cap, hi, rfl, hlat, hown, hd⟩ := hrel
    have hsz := hlat.less
    have HLat := hide hlat
    have HO := hide hown
    have HD := hide hd
    have r1 := hd.rd.cell1
    have hpl : pre.length ≤ 2000 := by
      have h := listR_len (f := itemR) itemR_lt C L1 e1
      rw [hlat.same, List.length_append] at h
      omega
    clear hlat hown hd
    by_cases hlt : i < C
    · have v4 : (i : Int) < (C : Int) := by omega
      by_cases he : e = 0
      · subst he
        obtain ⟨c', hc'⟩ : ∃ c', C - i = c' + 1 := ⟨C - i - 1, by omega⟩
        have hnx := unhide HLat
        rw [hc'] at hnx
        have hc2 : c' = C - (i + 1) := by omega
        have hnx2 := hnx.next itemR_le itemR_lt
        rw [hc2] at hnx2
        have HNX := hide hnx2
        clear hnx hnx2 hc2 hc'
        have HT1 := hide (fun W (hW : Rm W g L 0) => refTextR_any g 0 L 272 W hW (by omega) (by omega))
        have hle3 := textR_le L 0 272
        have HT2 := hide (fun W (hW : Rm W g (textR L 0 272).2.1 (textR L 0 272).2.2) => refTextR_any g _ _ 160 W hW (by omega) (by omega))
        have e1' : (itemR L 0).1 = ((textR L 0 272).1, (textR (textR L 0 272).2.1 (textR L 0 272).2.2 160).1) := rfl
        have e2' : (itemR L 0).2 = ((textR (textR L 0 272).2.1 (textR L 0 272).2.2 160).2.1, (textR (textR L 0 272).2.1 (textR L 0 272).2.2 160).2.2) := rfl
        rw [e1', e2'] at HNX
        clear e1' e2' hle3
        generalize textR L 0 272 = X at *
        obtain ⟨K1, L2, e2⟩ := X
        simp only at HT1 HT2 HNX
        generalize textR L2 e2 160 = Y at *
        obtain ⟨K2, L3, e3⟩ := Y
        simp only at HT2 HNX
        go_wp2_with fail
        refine (unhide HT1 _ (unhide HD).rd).mono ?_
        rintro x w4 ⟨rfl, ht⟩
        have HOX := (unhide HO).toldM (by decide) (unhide HD).rd ht
        have HDX := (unhide HD).told ht
        clear ht HO HD HT1 r1
        have HOY := hide HOX
        have HDY := hide HDX
        have d0 := HDX.nd.cell0
        have d1 := HDX.nd.cell1
        clear HOX HDX
        go_wp2_with fail
        have HOX := (unhide HOY).below (below_drew _)
        have HDX := (unhide HDY).grow (below_drew _)
        clear HOY HDY d0
        refine wp_region_noPanic ?_
        refine wp_region_held_drew (S := fun _ => True) (by kernel_rfl) trivial (fun hHeld => ?_)
        refine takeY 0 (some 48) ?_ rfl rfl (by kernel_rfl) (by kernel_rfl) (by kernel_rfl) (fun _ _ _ h => h) (by rfl) ?_ hHeld ?_
        rotate_left
        · intro w hSw; (try dsimp only at hSw); go_simp <;> with_reducible rfl
        simp only [Act.put, List.setIfInBounds_toArray, List.set_cons_zero, List.set_cons_succ]
        refine takeY 2 (some 50) ?_ rfl rfl (by kernel_rfl) (by kernel_rfl) (by kernel_rfl) (fun _ _ _ h => h) (by rfl) ?_ hHeld ?_
        rotate_left
        · intro w hSw; (try dsimp only at hSw); go_simp <;> with_reducible rfl
        simp only [Act.put, List.setIfInBounds_toArray, List.set_cons_zero, List.set_cons_succ]
        refine wpAnyH_ready (rs := [1, 3]) (by kernel_rfl) (by simp) ?_
        refine AllReadyH.cons rfl (fun K hK => ?_) (AllReadyH.cons rfl (fun K hK => ?_) AllReadyH.nil)
        · go_simp
          refine hK.out _ _ trivial (fun hHeld => ?_)
          clear hK K
          try simp only [Act.put, List.setIfInBounds_toArray, List.set_cons_zero, List.set_cons_succ]
          refine wpAnyH_ready (rs := [3]) (by kernel_rfl) (by simp) ?_
          refine AllReadyH.cons rfl (fun K hK => ?_) AllReadyH.nil
          go_simp
          refine (unhide HT2 _ HDX.rd).mono ?_
          rintro x wB ⟨rfl, ht⟩
          have HOB := hide (HOX.toldM (by decide) HDX.rd ht)
          have HDB := hide (HDX.told ht)
          have m1 := (unhide HDB).nd.cell1
          have TM : ∀ o, (wB.alloc o).cell? ⟨q, 1, none⟩ = some (.slice a pre.length cap) := fun o => cell_keep m1 (below_alloc wB o)
          clear ht
          refine hK.out _ _ trivial (fun hHeld => ?_)
          clear hK K
          try simp only [Act.put, List.setIfInBounds_toArray, List.set_cons_zero, List.set_cons_succ]
          refine takeY 4 (some 52) ?_ rfl rfl (by kernel_rfl) (by kernel_rfl) (by kernel_rfl) (fun _ _ _ h => h) (by rfl) ?_ hHeld ?_
          rotate_left
          · intro w hSw; (try dsimp only at hSw); go_simp <;> with_reducible rfl
          simp only [Act.put, List.setIfInBounds_toArray, List.set_cons_zero, List.set_cons_succ]
          refine wpAnyH_ready (rs := [5]) (by kernel_rfl) (by simp) ?_
          refine AllReadyH.cons rfl (fun K hK => ?_) AllReadyH.nil
          go_simp
          refine hK.out _ _ trivial (fun hHeld => ?_)
          clear hK K
          try simp only [Act.put, List.setIfInBounds_toArray, List.set_cons_zero, List.set_cons_succ]
          refine wpAnyH_ready (rs := [6]) (by kernel_rfl) (by simp) ?_
          refine AllReadyH.cons rfl (fun K hK => ?_) AllReadyH.nil
          refine step_gen (wr := wB) (v := .slice a pre.length cap) (n := pre.length) (news := [.string K1, .string K2]) rfl Tryz.underlying40 info126 rfl (by decide) _ _ rfl rfl rfl (unhide HOB) (unhide HDB).bz rfl (pair_one rfl) (by omega) (by omega) ?_
          intro aC capC wC hownC hgC _
          have HOC := hide (OwnE.snoc (sv := Value.string) (x := (K1, K2)) hownC)
          have HDC2 := hide ((unhide HDB).app (unhide HOB) (by decide) (by decide) hgC)
          have mC := (unhide HDC2).nd.cell1
          have fC := (unhide HDC2).nd.free 1
          clear hownC hgC
          refine hK.out _ _ trivial (fun hHeld => ?_)
          clear hK K
          try simp only [Act.put, List.setIfInBounds_toArray]
          refine takeY 7 (some 55) ?_ rfl rfl (by kernel_rfl) (by kernel_rfl) (by kernel_rfl) (fun _ _ _ h => h) (by rfl) ?_ hHeld ?_
          rotate_left
          · intro w hSw; (try dsimp only at hSw); go_simp <;> with_reducible rfl
          simp only [Act.put]
          refine wpAnyH_ready (rs := [8]) (by kernel_rfl) (by simp) ?_
          refine AllReadyH.cons rfl (fun K hK => ?_) AllReadyH.nil
          go_simp
          refine hK.out _ _ trivial (fun hHeld => ?_)
          clear hK K
          try simp only [Act.put]
          refine wpAnyH_done (by kernel_rfl) ?_ _
          refine NoPanic.normal ?_
          have HD9 := hide ((unhide HDC2).set1 aC (pre.length + 1) capC)
          have HO9 := hide ((unhide HOC).set (unhide HDC2).nd (by decide) 1 (.slice aC (pre.length + 1) capC))
          clear HDC2 HOC HDB HOB mC fC m1
          go_wp2
          go_roundw
          case rel => exact ⟨i + 1, pre ++ [(K1, K2)], L3, e3, aC, capC, by omega, by go_num, unhide HNX, by rw [List.length_append]; exact unhide HO9, by rw [List.length_append]; exact unhide HD9⟩
          case measure => simp [intOf]; omega
        · go_simp
          refine (unhide HT2 _ HDX.rd).mono ?_
          rintro x wB ⟨rfl, ht⟩
          have HOB := hide (HOX.toldM (by decide) HDX.rd ht)
          have HDB := hide (HDX.told ht)
          have m1 := (unhide HDB).nd.cell1
          have TM : ∀ o, (wB.alloc o).cell? ⟨q, 1, none⟩ = some (.slice a pre.length cap) := fun o => cell_keep m1 (below_alloc wB o)
          clear ht
          refine hK.out _ _ trivial (fun hHeld => ?_)
          clear hK K
          try simp only [Act.put, List.setIfInBounds_toArray, List.set_cons_zero, List.set_cons_succ]
          refine takeY 4 (some 52) ?_ rfl rfl (by kernel_rfl) (by kernel_rfl) (by kernel_rfl) (fun _ _ _ h => h) (by rfl) ?_ hHeld ?_
          rotate_left
          · intro w hSw; (try dsimp only at hSw); go_simp <;> with_reducible rfl
          simp only [Act.put, List.setIfInBounds_toArray, List.set_cons_zero, List.set_cons_succ]
          refine wpAnyH_ready (rs := [1, 5]) (by kernel_rfl) (by simp) ?_
          refine AllReadyH.cons rfl (fun K hK => ?_) (AllReadyH.cons rfl (fun K hK => ?_) AllReadyH.nil)
          · go_simp
            refine hK.out _ _ trivial (fun hHeld => ?_)
            clear hK K
            try simp only [Act.put, List.setIfInBounds_toArray, List.set_cons_zero, List.set_cons_succ]
            refine wpAnyH_ready (rs := [5]) (by kernel_rfl) (by simp) ?_
            refine AllReadyH.cons rfl (fun K hK => ?_) AllReadyH.nil
            go_simp
            refine hK.out _ _ trivial (fun hHeld => ?_)
            clear hK K
            try simp only [Act.put, List.setIfInBounds_toArray, List.set_cons_zero, List.set_cons_succ]
            refine wpAnyH_ready (rs := [6]) (by kernel_rfl) (by simp) ?_
            refine AllReadyH.cons rfl (fun K hK => ?_) AllReadyH.nil
            refine step_gen (wr := wB) (v := .slice a pre.length cap) (n := pre.length) (news := [.string K1, .string K2]) rfl Tryz.underlying40 info126 rfl (by decide) _ _ rfl rfl rfl (unhide HOB) (unhide HDB).bz rfl (pair_one rfl) (by omega) (by omega) ?_
            intro aC capC wC hownC hgC _
            have HOC := hide (OwnE.snoc (sv := Value.string) (x := (K1, K2)) hownC)
            have HDC2 := hide ((unhide HDB).app (unhide HOB) (by decide) (by decide) hgC)
            have mC := (unhide HDC2).nd.cell1
            have fC := (unhide HDC2).nd.free 1
            clear hownC hgC
            refine hK.out _ _ trivial (fun hHeld => ?_)
            clear hK K
            try simp only [Act.put, List.setIfInBounds_toArray]
            refine takeY 7 (some 55) ?_ rfl rfl (by kernel_rfl) (by kernel_rfl) (by kernel_rfl) (fun _ _ _ h => h) (by rfl) ?_ hHeld ?_
            rotate_left
            · intro w hSw; (try dsimp only at hSw); go_simp <;> with_reducible rfl
            simp only [Act.put]
            refine wpAnyH_ready (rs := [8]) (by kernel_rfl) (by simp) ?_
            refine AllReadyH.cons rfl (fun K hK => ?_) AllReadyH.nil
            go_simp
            refine hK.out _ _ trivial (fun hHeld => ?_)
            clear hK K
            try simp only [Act.put]
            refine wpAnyH_done (by kernel_rfl) ?_ _
            refine NoPanic.normal ?_
            have HD9 := hide ((unhide HDC2).set1 aC (pre.length + 1) capC)
            have HO9 := hide ((unhide HOC).set (unhide HDC2).nd (by decide) 1 (.slice aC (pre.length + 1) capC))
            clear HDC2 HOC HDB HOB mC fC m1
            go_wp2
            go_roundw
            case rel => exact ⟨i + 1, pre ++ [(K1, K2)], L3, e3, aC, capC, by omega, by go_num, unhide HNX, by rw [List.length_append]; exact unhide HO9, by rw [List.length_append]; exact unhide HD9⟩
            case measure => simp [intOf]; omega
          · go_simp
            refine hK.out _ _ trivial (fun hHeld => ?_)
            clear hK K
            try simp only [Act.put, List.setIfInBounds_toArray, List.set_cons_zero, List.set_cons_succ]
            refine wpAnyH_ready (rs := [1]) (by kernel_rfl) (by simp) ?_
            refine AllReadyH.cons rfl (fun K hK => ?_) AllReadyH.nil
            go_simp
            refine hK.out _ _ trivial (fun hHeld => ?_)
            clear hK K
            try simp only [Act.put, List.setIfInBounds_toArray, List.set_cons_zero, List.set_cons_succ]
            refine wpAnyH_ready (rs := [6]) (by kernel_rfl) (by simp) ?_
            refine AllReadyH.cons rfl (fun K hK => ?_) AllReadyH.nil
            refine step_gen (wr := wB) (v := .slice a pre.length cap) (n := pre.length) (news := [.string K1, .string K2]) rfl Tryz.underlying40 info126 rfl (by decide) _ _ rfl rfl rfl (unhide HOB) (unhide HDB).bz rfl (pair_one rfl) (by omega) (by omega) ?_
            intro aC capC wC hownC hgC _
            have HOC := hide (OwnE.snoc (sv := Value.string) (x := (K1, K2)) hownC)
            have HDC2 := hide ((unhide HDB).app (unhide HOB) (by decide) (by decide) hgC)
            have mC := (unhide HDC2).nd.cell1
            have fC := (unhide HDC2).nd.free 1
            clear hownC hgC
            refine hK.out _ _ trivial (fun hHeld => ?_)
            clear hK K
            try simp only [Act.put, List.setIfInBounds_toArray]
            refine takeY 7 (some 55) ?_ rfl rfl (by kernel_rfl) (by kernel_rfl) (by kernel_rfl) (fun _ _ _ h => h) (by rfl) ?_ hHeld ?_
            rotate_left
            · intro w hSw; (try dsimp only at hSw); go_simp <;> with_reducible rfl
            simp only [Act.put]
            refine wpAnyH_ready (rs := [8]) (by kernel_rfl) (by simp) ?_
            refine AllReadyH.cons rfl (fun K hK => ?_) AllReadyH.nil
            go_simp
            refine hK.out _ _ trivial (fun hHeld => ?_)
            clear hK K
            try simp only [Act.put]
            refine wpAnyH_done (by kernel_rfl) ?_ _
            refine NoPanic.normal ?_
            have HD9 := hide ((unhide HDC2).set1 aC (pre.length + 1) capC)
            have HO9 := hide ((unhide HOC).set (unhide HDC2).nd (by decide) 1 (.slice aC (pre.length + 1) capC))
            clear HDC2 HOC HDB HOB mC fC m1
            go_wp2
            go_roundw
            case rel => exact ⟨i + 1, pre ++ [(K1, K2)], L3, e3, aC, capC, by omega, by go_num, unhide HNX, by rw [List.length_append]; exact unhide HO9, by rw [List.length_append]; exact unhide HD9⟩
            case measure => simp [intOf]; omega
      · have HL := hide ((unhide HLat).err he)
        have f0' : ((e : Int) == 0) = false := beq_eq_false_iff_ne.2 (by omega)
        clear HLat
        have HN : Hid (decodeN S = if e = 0 ∧ L.size = 0 ∧ rightB ⟨true, pre, []⟩ = true then (⟨true, pre, []⟩, 0) else (nd0, 60)) := by
          show _ = _
          rw [unhide HDC, unhide HRN, unhide HL]
        clear HL HDC HRN
        go_wp2_with fail
        refine (refEnd_any g e L wr (unhide HD).rd).mono ?_
        rintro x w5 ⟨rfl, hw⟩
        have hw := hw.symm
        subst hw
        have c0 := (unhide HD).res.cell0
        have c1 := (unhide HD).res.cell1
        have c2 := (unhide HD).res.cell2
        have f0 := (unhide HD).res.free 0
        have f1 := (unhide HD).res.free 1
        have f2 := (unhide HD).res.free 2
        have d0 := (unhide HD).nd.cell0
        have d1 := (unhide HD).nd.cell1
        have d2 := (unhide HD).nd.cell2
        have e0 : endR L e ≠ 0 := by unfold endR; rw [if_pos he]; exact he
        have HN2 := hide ((unhide HN).trans (if_neg (fun h => he h.1)))
        generalize endR L e = E at *
        have g0 : ((E : Int) == 0) = false := beq_eq_false_iff_ne.2 (by omega)
        have g1 : ((E : Int) != 0) = true := bne_iff_ne.2 (by omega)
        clear he HN e0
        go_wp2
        refine bodyPost_ret (v := .tuple #[.agg #[.bool false, .slice none 0 0, .slice none 0 0], .int .i64 60]) ?_ rfl ?_
        · rw [results_cell_tmp rfl]
          go_simp
        · rw [unhide HN2]
          exact dec_zero w _ _ rfl (below_store (below_store (below_store (unhide HD).bel p 0 _ hpw) p 1 _ hpw) p 2 _ hpw)
    · obtain rfl : i = C := by omega
      have hd0 := unhide HLat
      rw [Nat.sub_self] at hd0
      have HL := hide hd0.done
      clear HLat hd0
      have HN : Hid (decodeN S = if e = 0 ∧ L.size = 0 ∧ rightB ⟨true, pre, []⟩ = true then (⟨true, pre, []⟩, 0) else (nd0, 60)) := by
        show _ = _
        rw [unhide HDC, unhide HRN, unhide HL]
      clear HL HDC HRN
      go_wp2_with fail
      refine (refEnd_any g e L wr (unhide HD).rd).mono ?_
      rintro x w5 ⟨rfl, hw⟩
      have hw := hw.symm
      subst hw
      have c0 := (unhide HD).res.cell0
      have c1 := (unhide HD).res.cell1
      have c2 := (unhide HD).res.cell2
      have f0 := (unhide HD).res.free 0
      have f1 := (unhide HD).res.free 1
      have f2 := (unhide HD).res.free 2
      have d0 := (unhide HD).nd.cell0
      have d1 := (unhide HD).nd.cell1
      have d2 := (unhide HD).nd.cell2
      by_cases hen : e = 0 ∧ L.size = 0
      · have e0 : endR L e = 0 := by unfold endR; rw [if_neg (by omega), if_pos hen.2]
        rw [e0]
        have HH : Hid (Has wr ⟨true, pre, []⟩ a none) := ⟨(unhide HO).row, .inl rfl⟩
        go_wp2_with fail
        refine (refRight_any ⟨true, pre, []⟩ a none cap 0 wr (unhide HH) (by show _ ≤ _; simp; try omega) (by show _ ≤ _; simp; try omega)).mono ?_
        rintro x w6 ⟨rfl, hb⟩
        have HB6 := hide (below_then (unhide HD).bel hb)
        have HH6 := hide ((unhide HH).grow hb)
        have HP6 := hide ((unhide HD).res.below hb)
        have c0 := cell_keep c0 hb
        have c1 := cell_keep c1 hb
        have c2 := cell_keep c2 hb
        have f0 := (unhide HP6).free 0
        have f1 := (unhide HP6).free 1
        have f2 := (unhide HP6).free 2
        have d0 := cell_keep d0 hb
        have d1 := cell_keep d1 hb
        have d2 := cell_keep d2 hb
        clear hb
        by_cases hri : rightB ⟨true, pre, []⟩ = true
        · have HN2 := hide ((unhide HN).trans (if_pos ⟨hen.1, hen.2, hri⟩))
          rw [hri]
          clear hri HN
          go_wp2
          have hst := (unhide HP6).store true a pre.length cap none 0 0 (unhide HH6)
          refine bodyPost_ret (v := .tuple #[.agg #[.bool true, .slice a pre.length cap, .slice none 0 0], .int .i64 0]) ?_ rfl ?_
          · rw [results_cell_tmp rfl]
            go_simp
          · rw [unhide HN2]
            exact ⟨a, none, cap, 0, rfl, hst.2, below_store (below_store (below_store (unhide HB6) p 0 _ hpw) p 1 _ hpw) p 2 _ hpw⟩
        · have hri : rightB ⟨true, pre, []⟩ = false := by simpa using hri
          have HN2 := hide ((unhide HN).trans (if_neg (fun h => by rw [hri] at h; simp at h)))
          rw [hri]
          clear hri HN
          go_wp2
          refine bodyPost_ret (v := .tuple #[.agg #[.bool false, .slice none 0 0, .slice none 0 0], .int .i64 60]) ?_ rfl ?_
          · rw [results_cell_tmp rfl]
            go_simp
          · rw [unhide HN2]
            exact dec_zero w _ _ rfl (below_store (below_store (below_store (unhide HB6) p 0 _ hpw) p 1 _ hpw) p 2 _ hpw)
      · have e0 : endR L e ≠ 0 := by
          unfold endR
          by_cases hx : e = 0
          · rw [if_neg (by omega), if_neg (fun h => hen ⟨hx, h⟩)]
            decide
          · rw [if_pos hx]
            exact hx
        have HN2 := hide ((unhide HN).trans (if_neg (fun h => hen ⟨h.1, h.2.1⟩)))
        generalize endR L e = E at *
        have g0 : ((E : Int) == 0) = false := beq_eq_false_iff_ne.2 (by omega)
        have g1 : ((E : Int) != 0) = true := bne_iff_ne.2 (by omega)
        clear hen HN e0
        go_wp2
        refine bodyPost_ret (v := .tuple #[.agg #[.bool false, .slice none 0 0, .slice none 0 0], .int .i64 60]) ?_ rfl ?_
        · rw [results_cell_tmp rfl]
          go_simp
        · rw [unhide HN2]
          exact dec_zero w _ _ rfl (below_store (below_store (below_store (unhide HD).bel p 0 _ hpw) p 1 _ hpw) p 2 _ hpw)
end Go.Proofs.YtlmgmdnmghgkbaaGreatDoor.L6
