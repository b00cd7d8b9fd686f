/- Texts that the proof needs, one behind the other. -/
import Derived.Test.YtdelobaiicoogaaGreatDoorMaz
import Derived.Test.YtdelobaiicoogaaGreatDoorMag
import Derived.Deep.QuietTactic
import Derived.BigQuiet
/- What the document's Open does: the document's block, or the error, as one function. -/
namespace Go.Proofs.YtdelobaiicoogaaGreatDoor.L4
open Go.ChangeShapes Go.WideShapes Go.ChangeAt Go.RowKit

theorem at_of (S : ByteArray) (h : S.size = 1024) (i : Nat) (hi : i < 1020) : (bn (S.extract 0 1020)).getD i 0 = (S[i]'(by omega)).toNat := by
  rw [bn_front, List.getD_eq_getElem?_getD, List.getElem?_take_of_lt hi, bn_at S i (by omega)]
  rfl
theorem gen_of (S : ByteArray) : Blk.genOf (bn (S.extract 0 1020)) = Pk.fixN ((bn (S.extract 5 13)).take 8) := by
  unfold Blk.genOf
  rw [bn_front, bn_extract, List.drop_take, List.take_take, List.take_take]
  rfl
theorem two_of (S : ByteArray) : (bn (S.extract 0 1020)).take 2 = [67, 80] ↔ S.extract 0 2 = ⟨#[67, 80]⟩ := by
  have e : (bn (S.extract 0 1020)).take 2 = bn (S.extract 0 2) := by rw [bn_front, bn_front, List.take_take]; rfl
  rw [e]
  constructor
  · intro hh
    exact bn_inj hh
  · intro hh
    rw [hh]
    rfl
theorem pay_of (S : ByteArray) (n : Nat) (hn : n ≤ 1007) : (S.extract 0 1020).extract 13 (13 + n) = S.extract 13 (13 + n) := by
  apply bn_inj
  rw [bn_extract, bn_front, bn_extract, List.drop_take, List.take_take, Nat.min_eq_left (by omega)]
theorem drop_of (S : ByteArray) (h : S.size = 1024) (m x : Nat) : x ∈ (bn (S.extract 0 1020)).drop m ↔ ∃ j, ∃ hj : j < S.size, m ≤ j ∧ j < 1020 ∧ S[j].toNat = x := by
  have hl : (bn (S.extract 0 1020)).length = 1020 := by rw [bn_length, ByteArray.size_extract]; omega
  constructor
  · intro hx
    obtain ⟨i, hi, rfl⟩ := List.getElem_of_mem hx
    rw [List.length_drop, hl] at hi
    refine ⟨m + i, by omega, by omega, by omega, ?_⟩
    rw [List.getElem_drop, ← at_of S h (m + i) (by omega), List.getD_eq_getElem?_getD, List.getElem?_eq_getElem (by omega)]
    rfl
  · rintro ⟨j, hj, h1, h2, rfl⟩
    rw [← at_of S h j h2, List.getD_eq_getElem?_getD, List.getElem?_eq_getElem (by omega)]
    refine List.mem_of_getElem? (i := j - m) ?_
    rw [List.getElem?_drop, show m + (j - m) = j by omega, List.getElem?_eq_getElem (by omega)]
    rfl

theorem ropen_any (S : ByteArray) (w : World) :
    Calls Tryz.prog 142 #[.string S] w fun e w' => e = .returned (opened (openR S)) ∧ Below w.heap.size w w' := by
  unfold openR
  by_cases h : S.size = 1024
  · rw [if_neg (fun hh => hh h)]
    have b : ∀ i (hi : i < S.size), S[i].toNat < 256 := fun i hi => S[i].toNat_lt
    have hd : (bn S).drop 1020 = [(S[1020]'(by omega)).toNat, (S[1021]'(by omega)).toNat, (S[1022]'(by omega)).toNat, (S[1023]'(by omega)).toNat] := by
      apply List.ext_getElem?
      intro i
      rw [List.getElem?_drop]
      by_cases hi : i < 4
      · rw [bn_at S (1020 + i) (by omega)]
        have e : i = 0 ∨ i = 1 ∨ i = 2 ∨ i = 3 := by omega
        rcases e with rfl | rfl | rfl | rfl <;> rfl
      · rw [List.getElem?_eq_none (by rw [bn_length]; omega), List.getElem?_eq_none (by simp; omega)]
    have hcl : Crc.sum ((bn S).take 1020) < 4294967296 := Crc.sum_lt _ (fun x hx => bn_lt S x (List.mem_of_mem_take hx))
    have hiff := Blk.num4_eq (b 1020 (by omega)) (b 1021 (by omega)) (b 1022 (by omega)) (b 1023 (by omega)) hcl
    by_cases hf : (bn S).drop 1020 = Blk.le4 (Crc.sum ((bn S).take 1020))
    · rw [if_neg (fun hh => hh hf)]
      rw [hd] at hf
      have hc := hiff.1 hf
      rw [← bn_front] at hc
      have hlen : Blk.lenOf (bn (S.extract 0 1020)) = (S[3]'(by omega)).toNat * 256 + (S[4]'(by omega)).toNat := by
        unfold Blk.lenOf
        rw [at_of S h 3 (by omega), at_of S h 4 (by omega)]
      have hk : (bn (S.extract 0 1020)).getD 2 0 = (S[2]'(by omega)).toNat := at_of S h 2 (by omega)
      have hge := gen_of S
      unfold blockR
      by_cases hp : S.extract 0 2 = ⟨#[67, 80]⟩
      · have hp' := (two_of S).2 hp
        by_cases hn : Blk.lenOf (bn (S.extract 0 1020)) ≤ 1007
        · by_cases hg : Blk.genOf (bn (S.extract 0 1020)) ≤ 1152921504606846976
          · refine ropen_loop S w _ _ _ _ _ _ (Blk.lenOf (bn (S.extract 0 1020))) (Blk.genOf (bn (S.extract 0 1020))) h rfl rfl rfl rfl (b _ _) (b _ _) (b _ _) (b _ _) hc rfl rfl (b _ _) (b _ _) hlen.symm hge.symm _ (b 2 (by omega)) _ rfl hp hn hg ?_ ?_
            · intro j hj h1 h2 h3
              rw [if_neg]
              intro hh
              have := hh.2.2.2 _ ((drop_of S h _ _).2 ⟨j, hj, h1, h2, rfl⟩)
              omega
            · intro hz
              rw [if_pos ⟨hp', hn, hg, fun x hx => by
                obtain ⟨j, hj, h1, h2, rfl⟩ := (drop_of S h _ _).1 hx
                exact hz j hj h1 h2⟩, hk, pay_of S _ hn]
          · rw [if_neg (fun hh => hg hh.2.2.1)]
            exact ropen_gen S w _ _ _ _ _ _ _ _ h rfl rfl rfl rfl (b _ _) (b _ _) (b _ _) (b _ _) hc rfl rfl (b _ _) (b _ _) hlen.symm hge.symm hp hn (Nat.lt_of_not_le hg)
        · rw [if_neg (fun hh => hn hh.2.1)]
          exact ropen_long S w _ _ _ _ _ _ _ _ h rfl rfl rfl rfl (b _ _) (b _ _) (b _ _) (b _ _) hc rfl rfl (b _ _) (b _ _) hlen.symm hge.symm hp (Nat.lt_of_not_le hn)
      · rw [if_neg (fun hh => hp ((two_of S).1 hh.1))]
        exact ropen_prefix S w _ _ _ _ _ _ _ _ h rfl rfl rfl rfl (b _ _) (b _ _) (b _ _) (b _ _) hc rfl rfl (b _ _) (b _ _) hlen.symm hge.symm _ rfl hp
    · rw [if_pos hf]
      rw [hd] at hf
      refine ropen_sum S w _ _ _ _ h rfl rfl rfl rfl (b _ _) (b _ _) (b _ _) (b _ _) _ rfl (fun hh => hf (hiff.2 ?_))
      rw [← bn_front]
      exact hh
  · rw [if_pos h]
    exact ropen_size S w h
end Go.Proofs.YtdelobaiicoogaaGreatDoor.L4

/- Whether a node is right, as the document tells it. -/
namespace Go.Proofs.YtdelobaiicoogaaGreatDoor.L6
open Go.ChangeShapes Go.WideShapes Go.ChangeAt Go.RowKit

theorem below_an (w : World) (o : Obj) (m : Nat) : Below w.heap.size w (World.drewN (w.alloc o) m) := below_drewN (below_alloc w o) m

set_option maxRecDepth 10000 in
set_option maxHeartbeats 8000000 in
theorem refRightI (ai ak : Option Addr) (ci ck : Nat) (its : List It) (w : World) (hr : Row Value.string w ai its) (hl : its.length ≤ 1000000) (hp : 0 < its.length) :
    Calls Tryz.prog 107 #[.agg #[.bool true, .slice ai its.length ci, .slice ak 0 ck]] w fun e w' => e = .returned (.bool (rise mayI none its)) ∧ Below w.heap.size w w' := by
  have e0 : ((its.length : Int) == 0) = false := beq_eq_false_iff_ne.2 (by omega)
  have hb0 := below_alloc w (.cells #[.bool true, .slice ai its.length ci, .slice ak 0 ck] 38)
  have HR := hide (hr.grow hb0)
  have HBW := hide hb0
  clear hr hb0
  go_enter Tryz.func107, Tryz.ntmps107
  go_wp2
  have q1 : (w.alloc (.cells #[.bool true, .slice ai its.length ci, .slice ak 0 ck] 38)).cell? ⟨w.heap.size, 1, none⟩ = some (.slice ai its.length ci) := by simp
  have q2 : (w.alloc (.cells #[.bool true, .slice ai its.length ci, .slice ak 0 ck] 38)).cell? ⟨w.heap.size, 2, none⟩ = some (.slice ak 0 ck) := by simp
  obtain ⟨p, hp'⟩ : ∃ y, y = w.heap.size := ⟨_, rfl⟩
  rw [← hp'] at q1 q2 ⊢
  clear hp'
  generalize w.alloc (.cells #[.bool true, .slice ai its.length ci, .slice ak 0 ck] 38) = w0 at *
  go_loopw [3] (fun t wr => ∃ k : Nat, k ≤ its.length ∧ t = .int .i64 k ∧ Upto mayI its k ∧ wr.cell? ⟨p, 1, none⟩ = some (.slice ai its.length ci) ∧ wr.cell? ⟨p, 2, none⟩ = some (.slice ak 0 ck) ∧ Below w0.heap.size w0 wr ∧ Below w.heap.size w wr) (fun t _ => its.length - (intOf t).toNat)
  case atStart => exact ⟨0, Nat.zero_le _, rfl, Upto.start _ _, q1, q2, Below.refl _ _, unhide HBW⟩
  case round =>
    obtain ⟨k, hk, rfl, hu, q1, q2, hbel0, hbel⟩ := hrel
    have HU := hide hu
    have HBel := hide hbel
    have HBel0 := hide hbel0
    clear hu hbel hbel0
    by_cases hlt : k < its.length
    · obtain ⟨b, off, rfl, hr⟩ := (unhide HR).at hlt
      obtain ⟨⟨key, val⟩, hx⟩ := get_some hlt
      have c0 := cell_keep_of (unhide HBel0) (hr k _ hx).1
      have c1 := cell_keep_of (unhide HBel0) (hr k _ hx).2
      simp only at c0 c1
      have HX := hide hx
      have HROW := hide hr
      clear hx hr HR
      by_cases k0 : 0 < key.size
      · have f0 := full_of' k0
        by_cases k1 : key.size ≤ 272
        · have f1 : decide ((272 : Int) < (key.size : Int)) = false := decide_eq_false (by omega)
          by_cases k2 : val.size ≤ 160
          · have f2 : decide ((160 : Int) < (val.size : Int)) = false := decide_eq_false (by omega)
            have HMX := hide (show mayI (key, val) = true by simp [mayI, k0, k1, k2])
            by_cases h0 : k = 0
            · subst h0
              rw [Nat.zero_mul, Nat.add_zero] at c0 c1
              go_wp2_with fail
              have z0 : (wr.alloc (.cells #[.string key, .string val] 58)).cell? ⟨wr.heap.size, 0, none⟩ = some (.string key) := by simp
              have z1 : (wr.alloc (.cells #[.string key, .string val] 58)).cell? ⟨wr.heap.size, 1, none⟩ = some (.string val) := by simp
              have r1 := cell_keep q1 (below_alloc wr (.cells #[.string key, .string val] 58))
              have r2 := cell_keep q2 (below_alloc wr (.cells #[.string key, .string val] 58))
              have HB2 : Hid (∀ m, (World.drewN (wr.alloc (.cells #[.string key, .string val] 58)) m).cell? ⟨p, 1, none⟩ = some (.slice (some ⟨b, off, none⟩) its.length ci) ∧ (World.drewN (wr.alloc (.cells #[.string key, .string val] 58)) m).cell? ⟨p, 2, none⟩ = some (.slice ak 0 ck) ∧ Below w0.heap.size w0 (World.drewN (wr.alloc (.cells #[.string key, .string val] 58)) m) ∧ Below w.heap.size w (World.drewN (wr.alloc (.cells #[.string key, .string val] 58)) m)) := fun m => ⟨cell_keep q1 (below_an wr _ m), cell_keep q2 (below_an wr _ m), below_then (unhide HBel0) (below_an wr _ m), below_then (unhide HBel) (below_an wr _ m)⟩
              obtain ⟨p2, hp2⟩ : ∃ y, y = wr.heap.size := ⟨_, rfl⟩
              rw [← hp2] at z0 z1 ⊢
              clear hp2 c0 c1 q1 q2
              generalize wr.alloc (.cells #[.string key, .string val] 58) = wa at *
              go_quiet (fail)
              go_wp2
              go_roundw
              case rel => exact ⟨1, by omega, by go_num, (unhide HU).first (unhide HX) (unhide HMX), unhide HB2 _⟩
              case measure => simp [intOf]; omega
            · obtain ⟨j, hj⟩ : ∃ j, j + 1 = k := ⟨k - 1, by omega⟩
              have v0 : 0 < k := by omega
              have v0' : decide ((0 : Int) < (k : Int)) = true := decide_eq_true (by omega)
              have v1 : (k : Int) - 1 = (j : Int) := by omega
              have v2 : IntKind.i64.wrap (j : Int) = (j : Int) := by rw [IntKind.wrap_i64]; omega
              have v3 : j < its.length := by omega
              have v4 : (j : Int) < (its.length : Int) := by omega
              have HJ := hide hj
              clear h0 hj
              obtain ⟨⟨ky, vy⟩, hy⟩ := get_some v3
              have d0 := cell_keep_of (unhide HBel0) ((unhide HROW) j _ hy).1
              simp only at d0
              have HY := hide hy
              clear hy
              by_cases hls : less ky key = true
              · have HLS := hide hls
                have hls' : Op.bytesLess ky.toList key.toList = true := hls
                clear hls
                go_wp2_with fail
                have z0 : (wr.alloc (.cells #[.string key, .string val] 58)).cell? ⟨wr.heap.size, 0, none⟩ = some (.string key) := by simp
                have z1 : (wr.alloc (.cells #[.string key, .string val] 58)).cell? ⟨wr.heap.size, 1, none⟩ = some (.string val) := by simp
                have r1 := cell_keep q1 (below_alloc wr (.cells #[.string key, .string val] 58))
                have r2 := cell_keep q2 (below_alloc wr (.cells #[.string key, .string val] 58))
                have d0 := cell_keep d0 (below_alloc wr (.cells #[.string key, .string val] 58))
                have HB2 : Hid (∀ m, (World.drewN (wr.alloc (.cells #[.string key, .string val] 58)) m).cell? ⟨p, 1, none⟩ = some (.slice (some ⟨b, off, none⟩) its.length ci) ∧ (World.drewN (wr.alloc (.cells #[.string key, .string val] 58)) m).cell? ⟨p, 2, none⟩ = some (.slice ak 0 ck) ∧ Below w0.heap.size w0 (World.drewN (wr.alloc (.cells #[.string key, .string val] 58)) m) ∧ Below w.heap.size w (World.drewN (wr.alloc (.cells #[.string key, .string val] 58)) m)) := fun m => ⟨cell_keep q1 (below_an wr _ m), cell_keep q2 (below_an wr _ m), below_then (unhide HBel0) (below_an wr _ m), below_then (unhide HBel) (below_an wr _ m)⟩
                obtain ⟨p2, hp2⟩ : ∃ y, y = wr.heap.size := ⟨_, rfl⟩
                rw [← hp2] at z0 z1 ⊢
                clear hp2 c0 c1 q1 q2
                generalize wr.alloc (.cells #[.string key, .string val] 58) = wa at *
                go_quiet (fail)
                go_wp2
                go_roundw
                case rel =>
                  have hj := unhide HJ
                  subst hj
                  exact ⟨j + 2, by omega, by go_num, (unhide HU).next (unhide HX) (unhide HY) (unhide HMX) (unhide HLS), unhide HB2 _⟩
                case measure => simp [intOf]; omega
              · have hls : less ky key = false := by simpa using hls
                have HN : Hid (rise mayI none its = false) := by
                  show _ = _
                  have hj := unhide HJ
                  subst hj
                  exact (unhide HU).falls (unhide HX) (unhide HY) hls
                have hls' : Op.bytesLess ky.toList key.toList = false := hls
                clear hls
                go_wp2_with fail
                have z0 : (wr.alloc (.cells #[.string key, .string val] 58)).cell? ⟨wr.heap.size, 0, none⟩ = some (.string key) := by simp
                have z1 : (wr.alloc (.cells #[.string key, .string val] 58)).cell? ⟨wr.heap.size, 1, none⟩ = some (.string val) := by simp
                have r1 := cell_keep q1 (below_alloc wr (.cells #[.string key, .string val] 58))
                have r2 := cell_keep q2 (below_alloc wr (.cells #[.string key, .string val] 58))
                have d0 := cell_keep d0 (below_alloc wr (.cells #[.string key, .string val] 58))
                have HB2 : Hid (∀ m, (World.drewN (wr.alloc (.cells #[.string key, .string val] 58)) m).cell? ⟨p, 1, none⟩ = some (.slice (some ⟨b, off, none⟩) its.length ci) ∧ (World.drewN (wr.alloc (.cells #[.string key, .string val] 58)) m).cell? ⟨p, 2, none⟩ = some (.slice ak 0 ck) ∧ Below w0.heap.size w0 (World.drewN (wr.alloc (.cells #[.string key, .string val] 58)) m) ∧ Below w.heap.size w (World.drewN (wr.alloc (.cells #[.string key, .string val] 58)) m)) := fun m => ⟨cell_keep q1 (below_an wr _ m), cell_keep q2 (below_an wr _ m), below_then (unhide HBel0) (below_an wr _ m), below_then (unhide HBel) (below_an wr _ m)⟩
                obtain ⟨p2, hp2⟩ : ∃ y, y = wr.heap.size := ⟨_, rfl⟩
                rw [← hp2] at z0 z1 ⊢
                clear hp2 c0 c1 q1 q2
                generalize wr.alloc (.cells #[.string key, .string val] 58) = wa at *
                go_quiet (fail)
                go_wp2
                go_ret
                exact ⟨ret_bool (unhide HN).symm, (unhide HB2 _).2.2.2⟩
          · have f2 : decide ((160 : Int) < (val.size : Int)) = true := decide_eq_true (by omega)
            have HN := hide ((unhide HU).bad (unhide HX) (show mayI (key, val) = false by simp [mayI, k2]))
            go_wp2_with fail
            have z0 : (wr.alloc (.cells #[.string key, .string val] 58)).cell? ⟨wr.heap.size, 0, none⟩ = some (.string key) := by simp
            have z1 : (wr.alloc (.cells #[.string key, .string val] 58)).cell? ⟨wr.heap.size, 1, none⟩ = some (.string val) := by simp
            have r1 := cell_keep q1 (below_alloc wr (.cells #[.string key, .string val] 58))
            have r2 := cell_keep q2 (below_alloc wr (.cells #[.string key, .string val] 58))
            have HB2 : Hid (∀ m, (World.drewN (wr.alloc (.cells #[.string key, .string val] 58)) m).cell? ⟨p, 1, none⟩ = some (.slice (some ⟨b, off, none⟩) its.length ci) ∧ (World.drewN (wr.alloc (.cells #[.string key, .string val] 58)) m).cell? ⟨p, 2, none⟩ = some (.slice ak 0 ck) ∧ Below w0.heap.size w0 (World.drewN (wr.alloc (.cells #[.string key, .string val] 58)) m) ∧ Below w.heap.size w (World.drewN (wr.alloc (.cells #[.string key, .string val] 58)) m)) := fun m => ⟨cell_keep q1 (below_an wr _ m), cell_keep q2 (below_an wr _ m), below_then (unhide HBel0) (below_an wr _ m), below_then (unhide HBel) (below_an wr _ m)⟩
            obtain ⟨p2, hp2⟩ : ∃ y, y = wr.heap.size := ⟨_, rfl⟩
            rw [← hp2] at z0 z1 ⊢
            clear hp2 c0 c1 q1 q2
            generalize wr.alloc (.cells #[.string key, .string val] 58) = wa at *
            go_quiet (fail)
            go_wp2
            go_ret
            exact ⟨ret_bool (unhide HN).symm, (unhide HB2 _).2.2.2⟩
        · have f1 : decide ((272 : Int) < (key.size : Int)) = true := decide_eq_true (by omega)
          have HN := hide ((unhide HU).bad (unhide HX) (show mayI (key, val) = false by simp [mayI, k1]))
          go_wp2_with fail
          have z0 : (wr.alloc (.cells #[.string key, .string val] 58)).cell? ⟨wr.heap.size, 0, none⟩ = some (.string key) := by simp
          have z1 : (wr.alloc (.cells #[.string key, .string val] 58)).cell? ⟨wr.heap.size, 1, none⟩ = some (.string val) := by simp
          have r1 := cell_keep q1 (below_alloc wr (.cells #[.string key, .string val] 58))
          have r2 := cell_keep q2 (below_alloc wr (.cells #[.string key, .string val] 58))
          have HB2 : Hid (∀ m, (World.drewN (wr.alloc (.cells #[.string key, .string val] 58)) m).cell? ⟨p, 1, none⟩ = some (.slice (some ⟨b, off, none⟩) its.length ci) ∧ (World.drewN (wr.alloc (.cells #[.string key, .string val] 58)) m).cell? ⟨p, 2, none⟩ = some (.slice ak 0 ck) ∧ Below w0.heap.size w0 (World.drewN (wr.alloc (.cells #[.string key, .string val] 58)) m) ∧ Below w.heap.size w (World.drewN (wr.alloc (.cells #[.string key, .string val] 58)) m)) := fun m => ⟨cell_keep q1 (below_an wr _ m), cell_keep q2 (below_an wr _ m), below_then (unhide HBel0) (below_an wr _ m), below_then (unhide HBel) (below_an wr _ m)⟩
          obtain ⟨p2, hp2⟩ : ∃ y, y = wr.heap.size := ⟨_, rfl⟩
          rw [← hp2] at z0 z1 ⊢
          clear hp2 c0 c1 q1 q2
          generalize wr.alloc (.cells #[.string key, .string val] 58) = wa at *
          go_quiet (fail)
          go_wp2
          go_ret
          exact ⟨ret_bool (unhide HN).symm, (unhide HB2 _).2.2.2⟩
      · have f0 := empty_of (s := key) (by omega)
        have HN := hide ((unhide HU).bad (unhide HX) (show mayI (key, val) = false by simp [mayI, k0]))
        go_wp2_with fail
        have z0 : (wr.alloc (.cells #[.string key, .string val] 58)).cell? ⟨wr.heap.size, 0, none⟩ = some (.string key) := by simp
        have z1 : (wr.alloc (.cells #[.string key, .string val] 58)).cell? ⟨wr.heap.size, 1, none⟩ = some (.string val) := by simp
        have r1 := cell_keep q1 (below_alloc wr (.cells #[.string key, .string val] 58))
        have r2 := cell_keep q2 (below_alloc wr (.cells #[.string key, .string val] 58))
        have HB2 : Hid (∀ m, (World.drewN (wr.alloc (.cells #[.string key, .string val] 58)) m).cell? ⟨p, 1, none⟩ = some (.slice (some ⟨b, off, none⟩) its.length ci) ∧ (World.drewN (wr.alloc (.cells #[.string key, .string val] 58)) m).cell? ⟨p, 2, none⟩ = some (.slice ak 0 ck) ∧ Below w0.heap.size w0 (World.drewN (wr.alloc (.cells #[.string key, .string val] 58)) m) ∧ Below w.heap.size w (World.drewN (wr.alloc (.cells #[.string key, .string val] 58)) m)) := fun m => ⟨cell_keep q1 (below_an wr _ m), cell_keep q2 (below_an wr _ m), below_then (unhide HBel0) (below_an wr _ m), below_then (unhide HBel) (below_an wr _ m)⟩
        obtain ⟨p2, hp2⟩ : ∃ y, y = wr.heap.size := ⟨_, rfl⟩
        rw [← hp2] at z0 z1 ⊢
        clear hp2 c0 c1 q1 q2
        generalize wr.alloc (.cells #[.string key, .string val] 58) = wa at *
        go_quiet (fail)
        go_wp2
        go_ret
        exact ⟨ret_bool (unhide HN).symm, (unhide HB2 _).2.2.2⟩
    · obtain rfl : k = its.length := by omega
      have HD := hide (unhide HU).done
      clear HU
      go_wp2
      go_loop [5] (fun t => t = .int .i64 0) (fun _ => 0)
      case atStart => rfl
      case round =>
        subst hrel
        go_wp2
        go_ret
        exact ⟨ret_bool (unhide HD).symm, unhide HBel⟩
end Go.Proofs.YtdelobaiicoogaaGreatDoor.L6

/- Whether a node is right, as the document tells it. -/
namespace Go.Proofs.YtdelobaiicoogaaGreatDoor.L6
open Go.ChangeShapes Go.WideShapes Go.ChangeAt Go.RowKit


set_option maxRecDepth 10000 in
set_option maxHeartbeats 8000000 in
theorem refRightK (ai ak : Option Addr) (ci ck : Nat) (kds : List Kd) (w : World) (hr : Row kv w ak kds) (hl : kds.length ≤ 1000000) (hp : 0 < kds.length) :
    Calls Tryz.prog 107 #[.agg #[.bool false, .slice ai 0 ci, .slice ak kds.length ck]] w fun e w' => e = .returned (.bool (rise mayK none kds)) ∧ Below w.heap.size w w' := by
  have e0 : ((kds.length : Int) == 0) = false := beq_eq_false_iff_ne.2 (by omega)
  have hb0 := below_alloc w (.cells #[.bool false, .slice ai 0 ci, .slice ak kds.length ck] 38)
  have HR := hide (hr.grow hb0)
  have HBW := hide hb0
  clear hr hb0
  go_enter Tryz.func107, Tryz.ntmps107
  go_wp2
  have q1 : (w.alloc (.cells #[.bool false, .slice ai 0 ci, .slice ak kds.length ck] 38)).cell? ⟨w.heap.size, 2, none⟩ = some (.slice ak kds.length ck) := by simp
  have q2 : (w.alloc (.cells #[.bool false, .slice ai 0 ci, .slice ak kds.length ck] 38)).cell? ⟨w.heap.size, 1, none⟩ = some (.slice ai 0 ci) := by simp
  obtain ⟨p, hp'⟩ : ∃ y, y = w.heap.size := ⟨_, rfl⟩
  rw [← hp'] at q1 q2 ⊢
  clear hp'
  generalize w.alloc (.cells #[.bool false, .slice ai 0 ci, .slice ak kds.length ck] 38) = w0 at *
  go_loop [3] (fun t => t = .int .i64 0) (fun _ => 0)
  case atStart => rfl
  case round =>
    subst hrel
    go_wp2
    go_loopw [5] (fun t wr => ∃ k : Nat, k ≤ kds.length ∧ t = .int .i64 k ∧ Upto mayK kds k ∧ wr.cell? ⟨p, 2, none⟩ = some (.slice ak kds.length ck) ∧ wr.cell? ⟨p, 1, none⟩ = some (.slice ai 0 ci) ∧ Below w0.heap.size w0 wr ∧ Below w.heap.size w wr) (fun t _ => kds.length - (intOf t).toNat)
    case atStart => exact ⟨0, Nat.zero_le _, rfl, Upto.start _ _, q1, q2, Below.refl _ _, unhide HBW⟩
    case round =>
      obtain ⟨k, hk, rfl, hu, q1, q2, hbel0, hbel⟩ := hrel
      have HU := hide hu
      have HBel := hide hbel
      have HBel0 := hide hbel0
      clear hu hbel hbel0
      by_cases hlt : k < kds.length
      · obtain ⟨b, off, rfl, hr⟩ := (unhide HR).at hlt
        obtain ⟨⟨key, val⟩, hx⟩ := get_some hlt
        have c0 := cell_keep_of (unhide HBel0) (hr k _ hx).1
        have c1 := cell_keep_of (unhide HBel0) (hr k _ hx).2
        simp only at c0 c1
        have HX := hide hx
        have HROW := hide hr
        clear hx hr HR
        by_cases k1 : key.size ≤ 272
        · have f1 : decide ((272 : Int) < (key.size : Int)) = false := decide_eq_false (by omega)
          by_cases k0 : 2 ≤ val
          · have f0 : decide (val < 2) = false := decide_eq_false (by omega)
            by_cases k2 : val < 4096
            · have f2 : decide ((4095 : Int) < val) = false := decide_eq_false (by omega)
              have HMX := hide (show mayK (key, val) = true by simp [mayK, k0, k1, k2])
              by_cases h0 : k = 0
              · subst h0
                rw [Nat.zero_mul, Nat.add_zero] at c0 c1
                go_wp2_with fail
                have z0 : (wr.alloc (.cells #[.string key, .int .i64 val] 76)).cell? ⟨wr.heap.size, 0, none⟩ = some (.string key) := by simp
                have z1 : (wr.alloc (.cells #[.string key, .int .i64 val] 76)).cell? ⟨wr.heap.size, 1, none⟩ = some (.int .i64 val) := by simp
                have r1 := cell_keep q1 (below_alloc wr (.cells #[.string key, .int .i64 val] 76))
                have r2 := cell_keep q2 (below_alloc wr (.cells #[.string key, .int .i64 val] 76))
                have HB2 : Hid (∀ m, (World.drewN (wr.alloc (.cells #[.string key, .int .i64 val] 76)) m).cell? ⟨p, 2, none⟩ = some (.slice (some ⟨b, off, none⟩) kds.length ck) ∧ (World.drewN (wr.alloc (.cells #[.string key, .int .i64 val] 76)) m).cell? ⟨p, 1, none⟩ = some (.slice ai 0 ci) ∧ Below w0.heap.size w0 (World.drewN (wr.alloc (.cells #[.string key, .int .i64 val] 76)) m) ∧ Below w.heap.size w (World.drewN (wr.alloc (.cells #[.string key, .int .i64 val] 76)) m)) := fun m => ⟨cell_keep q1 (below_an wr _ m), cell_keep q2 (below_an wr _ m), below_then (unhide HBel0) (below_an wr _ m), below_then (unhide HBel) (below_an wr _ m)⟩
                obtain ⟨p2, hp2⟩ : ∃ y, y = wr.heap.size := ⟨_, rfl⟩
                rw [← hp2] at z0 z1 ⊢
                clear hp2 c0 c1 q1 q2
                generalize wr.alloc (.cells #[.string key, .int .i64 val] 76) = wa at *
                go_quiet (fail)
                go_wp2
                go_roundw
                case rel => exact ⟨1, by omega, by go_num, (unhide HU).first (unhide HX) (unhide HMX), unhide HB2 _⟩
                case measure => simp [intOf]; omega
              · obtain ⟨j, hj⟩ : ∃ j, j + 1 = k := ⟨k - 1, by omega⟩
                have v0 : 0 < k := by omega
                have v0' : decide ((0 : Int) < (k : Int)) = true := decide_eq_true (by omega)
                have v1 : (k : Int) - 1 = (j : Int) := by omega
                have v2 : IntKind.i64.wrap (j : Int) = (j : Int) := by rw [IntKind.wrap_i64]; omega
                have v3 : j < kds.length := by omega
                have v4 : (j : Int) < (kds.length : Int) := by omega
                have HJ := hide hj
                clear h0 hj
                obtain ⟨⟨ky, vy⟩, hy⟩ := get_some v3
                have d0 := cell_keep_of (unhide HBel0) ((unhide HROW) j _ hy).1
                simp only at d0
                have HY := hide hy
                clear hy
                by_cases hls : less ky key = true
                · have HLS := hide hls
                  have hls' : Op.bytesLess ky.toList key.toList = true := hls
                  clear hls
                  go_wp2_with fail
                  have z0 : (wr.alloc (.cells #[.string key, .int .i64 val] 76)).cell? ⟨wr.heap.size, 0, none⟩ = some (.string key) := by simp
                  have z1 : (wr.alloc (.cells #[.string key, .int .i64 val] 76)).cell? ⟨wr.heap.size, 1, none⟩ = some (.int .i64 val) := by simp
                  have r1 := cell_keep q1 (below_alloc wr (.cells #[.string key, .int .i64 val] 76))
                  have r2 := cell_keep q2 (below_alloc wr (.cells #[.string key, .int .i64 val] 76))
                  have d0 := cell_keep d0 (below_alloc wr (.cells #[.string key, .int .i64 val] 76))
                  have HB2 : Hid (∀ m, (World.drewN (wr.alloc (.cells #[.string key, .int .i64 val] 76)) m).cell? ⟨p, 2, none⟩ = some (.slice (some ⟨b, off, none⟩) kds.length ck) ∧ (World.drewN (wr.alloc (.cells #[.string key, .int .i64 val] 76)) m).cell? ⟨p, 1, none⟩ = some (.slice ai 0 ci) ∧ Below w0.heap.size w0 (World.drewN (wr.alloc (.cells #[.string key, .int .i64 val] 76)) m) ∧ Below w.heap.size w (World.drewN (wr.alloc (.cells #[.string key, .int .i64 val] 76)) m)) := fun m => ⟨cell_keep q1 (below_an wr _ m), cell_keep q2 (below_an wr _ m), below_then (unhide HBel0) (below_an wr _ m), below_then (unhide HBel) (below_an wr _ m)⟩
                  obtain ⟨p2, hp2⟩ : ∃ y, y = wr.heap.size := ⟨_, rfl⟩
                  rw [← hp2] at z0 z1 ⊢
                  clear hp2 c0 c1 q1 q2
                  generalize wr.alloc (.cells #[.string key, .int .i64 val] 76) = wa at *
                  go_quiet (fail)
                  go_wp2
                  go_roundw
                  case rel =>
                    have hj := unhide HJ
                    subst hj
                    exact ⟨j + 2, by omega, by go_num, (unhide HU).next (unhide HX) (unhide HY) (unhide HMX) (unhide HLS), unhide HB2 _⟩
                  case measure => simp [intOf]; omega
                · have hls : less ky key = false := by simpa using hls
                  have HN : Hid (rise mayK none kds = false) := by
                    show _ = _
                    have hj := unhide HJ
                    subst hj
                    exact (unhide HU).falls (unhide HX) (unhide HY) hls
                  have hls' : Op.bytesLess ky.toList key.toList = false := hls
                  clear hls
                  go_wp2_with fail
                  have z0 : (wr.alloc (.cells #[.string key, .int .i64 val] 76)).cell? ⟨wr.heap.size, 0, none⟩ = some (.string key) := by simp
                  have z1 : (wr.alloc (.cells #[.string key, .int .i64 val] 76)).cell? ⟨wr.heap.size, 1, none⟩ = some (.int .i64 val) := by simp
                  have r1 := cell_keep q1 (below_alloc wr (.cells #[.string key, .int .i64 val] 76))
                  have r2 := cell_keep q2 (below_alloc wr (.cells #[.string key, .int .i64 val] 76))
                  have d0 := cell_keep d0 (below_alloc wr (.cells #[.string key, .int .i64 val] 76))
                  have HB2 : Hid (∀ m, (World.drewN (wr.alloc (.cells #[.string key, .int .i64 val] 76)) m).cell? ⟨p, 2, none⟩ = some (.slice (some ⟨b, off, none⟩) kds.length ck) ∧ (World.drewN (wr.alloc (.cells #[.string key, .int .i64 val] 76)) m).cell? ⟨p, 1, none⟩ = some (.slice ai 0 ci) ∧ Below w0.heap.size w0 (World.drewN (wr.alloc (.cells #[.string key, .int .i64 val] 76)) m) ∧ Below w.heap.size w (World.drewN (wr.alloc (.cells #[.string key, .int .i64 val] 76)) m)) := fun m => ⟨cell_keep q1 (below_an wr _ m), cell_keep q2 (below_an wr _ m), below_then (unhide HBel0) (below_an wr _ m), below_then (unhide HBel) (below_an wr _ m)⟩
                  obtain ⟨p2, hp2⟩ : ∃ y, y = wr.heap.size := ⟨_, rfl⟩
                  rw [← hp2] at z0 z1 ⊢
                  clear hp2 c0 c1 q1 q2
                  generalize wr.alloc (.cells #[.string key, .int .i64 val] 76) = wa at *
                  go_quiet (fail)
                  go_wp2
                  go_ret
                  exact ⟨ret_bool (unhide HN).symm, (unhide HB2 _).2.2.2⟩
            · have f2 : decide ((4095 : Int) < val) = true := decide_eq_true (by omega)
              have HN := hide ((unhide HU).bad (unhide HX) (show mayK (key, val) = false by simp [mayK, k2]))
              go_wp2_with fail
              have z0 : (wr.alloc (.cells #[.string key, .int .i64 val] 76)).cell? ⟨wr.heap.size, 0, none⟩ = some (.string key) := by simp
              have z1 : (wr.alloc (.cells #[.string key, .int .i64 val] 76)).cell? ⟨wr.heap.size, 1, none⟩ = some (.int .i64 val) := by simp
              have r1 := cell_keep q1 (below_alloc wr (.cells #[.string key, .int .i64 val] 76))
              have r2 := cell_keep q2 (below_alloc wr (.cells #[.string key, .int .i64 val] 76))
              have HB2 : Hid (∀ m, (World.drewN (wr.alloc (.cells #[.string key, .int .i64 val] 76)) m).cell? ⟨p, 2, none⟩ = some (.slice (some ⟨b, off, none⟩) kds.length ck) ∧ (World.drewN (wr.alloc (.cells #[.string key, .int .i64 val] 76)) m).cell? ⟨p, 1, none⟩ = some (.slice ai 0 ci) ∧ Below w0.heap.size w0 (World.drewN (wr.alloc (.cells #[.string key, .int .i64 val] 76)) m) ∧ Below w.heap.size w (World.drewN (wr.alloc (.cells #[.string key, .int .i64 val] 76)) m)) := fun m => ⟨cell_keep q1 (below_an wr _ m), cell_keep q2 (below_an wr _ m), below_then (unhide HBel0) (below_an wr _ m), below_then (unhide HBel) (below_an wr _ m)⟩
              obtain ⟨p2, hp2⟩ : ∃ y, y = wr.heap.size := ⟨_, rfl⟩
              rw [← hp2] at z0 z1 ⊢
              clear hp2 c0 c1 q1 q2
              generalize wr.alloc (.cells #[.string key, .int .i64 val] 76) = wa at *
              go_quiet (fail)
              go_wp2
              go_ret
              exact ⟨ret_bool (unhide HN).symm, (unhide HB2 _).2.2.2⟩
          · have f0 : decide (val < 2) = true := decide_eq_true (by omega)
            have HN := hide ((unhide HU).bad (unhide HX) (show mayK (key, val) = false by simp [mayK, k0]))
            go_wp2_with fail
            have z0 : (wr.alloc (.cells #[.string key, .int .i64 val] 76)).cell? ⟨wr.heap.size, 0, none⟩ = some (.string key) := by simp
            have z1 : (wr.alloc (.cells #[.string key, .int .i64 val] 76)).cell? ⟨wr.heap.size, 1, none⟩ = some (.int .i64 val) := by simp
            have r1 := cell_keep q1 (below_alloc wr (.cells #[.string key, .int .i64 val] 76))
            have r2 := cell_keep q2 (below_alloc wr (.cells #[.string key, .int .i64 val] 76))
            have HB2 : Hid (∀ m, (World.drewN (wr.alloc (.cells #[.string key, .int .i64 val] 76)) m).cell? ⟨p, 2, none⟩ = some (.slice (some ⟨b, off, none⟩) kds.length ck) ∧ (World.drewN (wr.alloc (.cells #[.string key, .int .i64 val] 76)) m).cell? ⟨p, 1, none⟩ = some (.slice ai 0 ci) ∧ Below w0.heap.size w0 (World.drewN (wr.alloc (.cells #[.string key, .int .i64 val] 76)) m) ∧ Below w.heap.size w (World.drewN (wr.alloc (.cells #[.string key, .int .i64 val] 76)) m)) := fun m => ⟨cell_keep q1 (below_an wr _ m), cell_keep q2 (below_an wr _ m), below_then (unhide HBel0) (below_an wr _ m), below_then (unhide HBel) (below_an wr _ m)⟩
            obtain ⟨p2, hp2⟩ : ∃ y, y = wr.heap.size := ⟨_, rfl⟩
            rw [← hp2] at z0 z1 ⊢
            clear hp2 c0 c1 q1 q2
            generalize wr.alloc (.cells #[.string key, .int .i64 val] 76) = wa at *
            go_quiet (fail)
            go_wp2
            go_ret
            exact ⟨ret_bool (unhide HN).symm, (unhide HB2 _).2.2.2⟩
        · have f1 : decide ((272 : Int) < (key.size : Int)) = true := decide_eq_true (by omega)
          have HN := hide ((unhide HU).bad (unhide HX) (show mayK (key, val) = false by simp [mayK, k1]))
          go_wp2_with fail
          have z0 : (wr.alloc (.cells #[.string key, .int .i64 val] 76)).cell? ⟨wr.heap.size, 0, none⟩ = some (.string key) := by simp
          have z1 : (wr.alloc (.cells #[.string key, .int .i64 val] 76)).cell? ⟨wr.heap.size, 1, none⟩ = some (.int .i64 val) := by simp
          have r1 := cell_keep q1 (below_alloc wr (.cells #[.string key, .int .i64 val] 76))
          have r2 := cell_keep q2 (below_alloc wr (.cells #[.string key, .int .i64 val] 76))
          have HB2 : Hid (∀ m, (World.drewN (wr.alloc (.cells #[.string key, .int .i64 val] 76)) m).cell? ⟨p, 2, none⟩ = some (.slice (some ⟨b, off, none⟩) kds.length ck) ∧ (World.drewN (wr.alloc (.cells #[.string key, .int .i64 val] 76)) m).cell? ⟨p, 1, none⟩ = some (.slice ai 0 ci) ∧ Below w0.heap.size w0 (World.drewN (wr.alloc (.cells #[.string key, .int .i64 val] 76)) m) ∧ Below w.heap.size w (World.drewN (wr.alloc (.cells #[.string key, .int .i64 val] 76)) m)) := fun m => ⟨cell_keep q1 (below_an wr _ m), cell_keep q2 (below_an wr _ m), below_then (unhide HBel0) (below_an wr _ m), below_then (unhide HBel) (below_an wr _ m)⟩
          obtain ⟨p2, hp2⟩ : ∃ y, y = wr.heap.size := ⟨_, rfl⟩
          rw [← hp2] at z0 z1 ⊢
          clear hp2 c0 c1 q1 q2
          generalize wr.alloc (.cells #[.string key, .int .i64 val] 76) = wa at *
          go_quiet (fail)
          go_wp2
          go_ret
          exact ⟨ret_bool (unhide HN).symm, (unhide HB2 _).2.2.2⟩
      · obtain rfl : k = kds.length := by omega
        have HD := hide (unhide HU).done
        clear HU
        go_wp2
        go_ret
        exact ⟨ret_bool (unhide HD).symm, unhide HBel⟩
end Go.Proofs.YtdelobaiicoogaaGreatDoor.L6
