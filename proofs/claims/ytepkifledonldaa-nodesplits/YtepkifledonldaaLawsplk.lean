/- The walk of the law NodeSplits, right nodes with kids. -/
import Derived.Test.YtepkifledonldaaLawspl
namespace Go.Proofs.Ytepkifledonldaa
open Go.ChangeShapes Go.WideShapes Go.ChangeAt Go.RowKit

set_option maxRecDepth 10000 in
set_option maxHeartbeats 8000000 in
theorem splitsK (its : List Kd) (ai ak : Option Addr) (ci ck : Nat) (w : World) (hn : Has w ⟨false, [], its⟩ ai ak) (hll : Lens ⟨false, [], its⟩) (hcap : its.length ≤ ck) (hr : rightB ⟨false, [], its⟩ = true) :
    Calls Try.prog 7 #[.agg #[.bool false, .slice ai 0 ci, .slice ak its.length ck]] w fun e w' => e = .returned (.bool true) ∧ Below w.heap.size w w' := by
  have HB := hide (below_alloc w (.cells #[.bool false, .slice ai 0 ci, .slice ak its.length ck] 25))
  have hq := Nblk.new w false ai ak 0 ci its.length ck
  have HN := hide hn
  clear hn
  go_enter Try.func7, Try.ntmps7
  go_wp2_with fail
  obtain ⟨p, hp⟩ : ∃ y, y = w.heap.size := ⟨_, rfl⟩
  rw [← hp] at hq ⊢
  generalize w.alloc (.cells #[.bool false, .slice ai 0 ci, .slice ak its.length ck] 25) = w1 at *
  clear hp
  refine (awake_any _).mono ?_
  rintro x w2 ⟨rfl, hb⟩
  have HQ := hide (hq.below hb)
  have HB := hide (below_then (unhide HB) hb)
  clear hb hq
  have q0 := (unhide HQ).cell0
  have q1 := (unhide HQ).cell1
  have q2 := (unhide HQ).cell2
  go_wp2_with fail
  refine (great_any (⟨false, [], its⟩ : Nd) ai ak ci ck _ ((unhide HN).grow (unhide HB)) hll.1 hll.2).mono ?_
  rintro x w3 ⟨g, rfl, hg, hb⟩
  have HQ := hide ((unhide HQ).below hb)
  have HB := hide (below_then (unhide HB) hb)
  clear hb q0 q1 q2
  cases g with
  | true =>
    go_wp2
    go_ret
    exact ⟨rfl, unhide HB⟩
  | false =>
    have HF := hide (hg rfl)
    clear hg
    have q0 := (unhide HQ).cell0
    have q1 := (unhide HQ).cell1
    have q2 := (unhide HQ).cell2
    have hil : (⟨false, [], its⟩ : Nd).its.length ≤ 1100 := Nat.le_trans (unhide HF).1 (by decide)
    have hkl : (⟨false, [], its⟩ : Nd).kds.length ≤ 1100 := Nat.le_trans (unhide HF).2.1 (by decide)
    try simp only at hil hkl
    have HN3 := hide ((unhide HN).grow (unhide HB))
    have HKS := hide (fun (w' : World) (h : Below w3.heap.size w3 w') => (⟨h, cell_keep q0 h, cell_keep q1 h, cell_keep q2 h⟩ : Below w3.heap.size w3 w' ∧ w'.cell? ⟨p, 0, none⟩ = some (.bool false) ∧ w'.cell? ⟨p, 1, none⟩ = some (.slice ai 0 ci) ∧ w'.cell? ⟨p, 2, none⟩ = some (.slice ak its.length ck)))
    go_wp2_with fail
    go_cut [3, 4] (fun s3 s4 wc => Pair2 kv 49 pcK w3 (Cut.parts kdL [] its) s3 s4 wc)
    case first =>
      refine wp_region_noPanic ?_
      refine wp_region_held_drew (S := fun w' => Below w3.heap.size w3 w' ∧ w'.cell? ⟨p, 0, none⟩ = some (.bool false) ∧ w'.cell? ⟨p, 1, none⟩ = some (.slice ai 0 ci) ∧ w'.cell? ⟨p, 2, none⟩ = some (.slice ak its.length ck)) (by kernel_rfl) (unhide HKS _ (below_drew w3)) (fun hHeld => ?_)
      refine takeY 0 (some 11) ?_ rfl rfl (by kernel_rfl) (by kernel_rfl) (by kernel_rfl) (fun _ _ _ h => h) (by rfl) ?_ hHeld ?_
      rotate_left
      · intro w hSw; (try dsimp only at hSw); go_simp <;> with_reducible rfl
      simp only [Act.put, List.setIfInBounds_toArray, List.set_cons_zero, List.set_cons_succ]
      refine takeY 2 (some 13) ?_ rfl rfl (by kernel_rfl) (by kernel_rfl) (by kernel_rfl) (fun _ _ _ h => h) (by rfl) ?_ hHeld ?_
      rotate_left
      · intro w hSw; (try dsimp only at hSw); go_simp <;> with_reducible rfl
      simp only [Act.put, List.setIfInBounds_toArray, List.set_cons_zero, List.set_cons_succ]
      obtain ⟨wX, hwX⟩ : ∃ y, y = w3.drew := ⟨_, rfl⟩
      rw [← hwX] at hHeld ⊢
      clear hwX
      have hbX := hHeld.1
      refine wpAnyH_ready (rs := [1]) (by kernel_rfl) (by simp) ?_
      refine AllReadyH.cons rfl (fun K hK => ?_) AllReadyH.nil
      go_simp
      refine (splitK ai ak ci ck its _ ((unhide HN3).grow hbX).2 hkl hcap hr).mono ?_
      rintro x wA ⟨aA, cA, psA, rfl, oA, mA, hb⟩
      obtain ⟨wX, hwX⟩ : ∃ y, y = wA := ⟨_, rfl⟩
      subst hwX
      have HPA := hide (OwnP.base oA hbX.size)
      clear oA
      have hbX := below_then hbX hb
      refine hK.out _ _ (unhide HKS _ hbX) (fun hHeld => ?_)
      clear hK K
      try simp only [Act.put, List.setIfInBounds_toArray, List.set_cons_zero, List.set_cons_succ]
      refine wpAnyH_ready (rs := [3]) (by kernel_rfl) (by simp) ?_
      refine AllReadyH.cons rfl (fun K hK => ?_) AllReadyH.nil
      go_simp
      refine (refSplitK ai ak ci ck its _ ((unhide HN3).grow hbX).2 hkl hr).mono ?_
      rintro x wA ⟨aB, cB, psB, rfl, oB, mB, hb⟩
      obtain ⟨wX, hwX⟩ : ∃ y, y = wA := ⟨_, rfl⟩
      subst hwX
      have HPB := hide (OwnP.base oB hbX.size)
      clear oB
      have HPA := hide ((unhide HPA).below hb)
      have hbX := below_then hbX hb
      refine hK.out _ _ (unhide HKS _ hbX) (fun hHeld => ?_)
      clear hK K
      try simp only [Act.put, List.setIfInBounds_toArray, List.set_cons_zero, List.set_cons_succ]
      refine takeY 4 (some 3) ?_ rfl rfl (by kernel_rfl) (by kernel_rfl) (by kernel_rfl) (fun _ _ _ h => h) (by rfl) ?_ hHeld ?_
      rotate_left
      · intro w hSw; (try dsimp only at hSw); go_simp <;> with_reducible rfl
      simp only [Act.put, List.setIfInBounds_toArray, List.set_cons_zero, List.set_cons_succ]
      refine takeY 5 (some 4) ?_ rfl rfl (by kernel_rfl) (by kernel_rfl) (by kernel_rfl) (fun _ _ _ h => h) (by rfl) ?_ hHeld ?_
      rotate_left
      · intro w hSw; (try dsimp only at hSw); go_simp <;> with_reducible rfl
      simp only [Act.put, List.setIfInBounds_toArray, List.set_cons_zero, List.set_cons_succ]
      refine wpAnyH_done (by kernel_rfl) ?_ _
      refine NoPanic.normal ?_
      go_wp2_with fail
      go_meet
      exact Pair2.mk' (unhide HPA) (unhide HPB) mA mB hbX
    case rest =>
      obtain ⟨a1, c1, ps1, a2, c2, ps2, rfl, rfl, o1, o2, e1, e2, hbc⟩ := hcut
      obtain ⟨hok, hflat, hone⟩ := kids_parts hr
      obtain ⟨PS, hPS⟩ : ∃ PS, PS = Cut.parts kdL [] its := ⟨_, rfl⟩
      have hpos := Cut.parts_pos kdL [] its
      have hmany := Cut.parts_many kdL [] its
      rw [← hPS] at o1 o2 e1 e2 hok hflat hone hpos hmany ⊢
      clear hPS
      obtain ⟨N, hN⟩ : ∃ N, N = PS.length := ⟨_, rfl⟩
      rw [← hN] at o1 o2 hone hpos hmany ⊢
      have hl1 : ps1.length = N := by rw [hN, ← e1, List.length_map]
      have hl2 : ps2.length = N := by rw [hN, ← e2, List.length_map]
      have HNP := hide hN
      have HL1 := hide hl1
      have HL2 := hide hl2
      have HE1 := hide e1
      have HE2 := hide e2
      have HOK := hide hok
      have HFL := hide hflat
      have HBC := hide hbc
      have HO1c := hide o1
      have HO2c := hide o2
      clear hN hl1 hl2 e1 e2 hok hflat o1 o2
      have nn : (((N : Int)) != ((N : Int))) = false := by simp
      have n0 : (((N : Int)) == 0) = false := beq_eq_false_iff_ne.2 (by omega)
      have HC := hide (fun (W : World) (h : Below w3.heap.size w3 W) => check_any (⟨false, [], its⟩ : Nd) ai ak ci ck W ((unhide HN3).grow h) hil hkl)
      have q0 := (unhide HKS _ hbc).2.1
      have q1 := (unhide HKS _ hbc).2.2.1
      have q2 := (unhide HKS _ hbc).2.2.2
      clear hbc
      obtain ⟨n1, hn1⟩ : ∃ b : Bool, (((N : Int)) == 1) = b := ⟨_, rfl⟩
      have hec : (checkN (⟨false, [], its⟩ : Nd) = 0 ∧ n1 = true) ∨ (checkN (⟨false, [], its⟩ : Nd) = 61 ∧ n1 = false) := by
        rcases checkN_two hr with h | h
        · left
          refine ⟨h, ?_⟩
          rw [← hn1, hone.2 h]
          rfl
        · right
          refine ⟨h, ?_⟩
          rw [← hn1]
          refine beq_eq_false_iff_ne.2 (fun e => ?_)
          have := hone.1 (by omega)
          omega
      clear hone
      go_upto_region 6 with fail
      go_cut [37] (fun s37 wd => s37 = .bool false ∧ Below wc.heap.size wc wd)
      case first =>
        rcases hec with ⟨hec, rfl⟩ | ⟨hec, rfl⟩
        all_goals
          rw [hec] at HC
          clear hec
          go_wp2_with fail
          refine (unhide HC _ (unhide HBC)).mono ?_
          rintro x w6 ⟨rfl, hb⟩
          have HD := hide hb
          have HBD := hide (below_then (unhide HBC) hb)
          have q0 := (unhide HKS _ (unhide HBD)).2.1
          have q1 := (unhide HKS _ (unhide HBD)).2.2.1
          have q2 := (unhide HKS _ (unhide HBD)).2.2.2
          clear hb
          go_wp2_with fail
          refine (unhide HC _ (unhide HBD)).mono ?_
          rintro x w7 ⟨rfl, hb⟩
          have HD := hide (below_then (unhide HD) hb)
          clear hb
          go_wp2_with fail
          go_meet
          exact ⟨rfl, unhide HD⟩
      case rest =>
        obtain ⟨rfl, hbd⟩ := hcut
        obtain ⟨w7, h7⟩ : ∃ y, y = wc := ⟨_, rfl⟩
        subst h7
        have HO1 := hide ((unhide HO1c).below hbd)
        have HO2 := hide ((unhide HO2c).below hbd)
        have HB7 := hide (below_then (unhide HBC) hbd)
        have q0 := (unhide HKS _ (unhide HB7)).2.1
        clear hbd q1 q2 HC hec hn1 HO1c HO2c HBC
        go_wp2
        obtain ⟨y, hy⟩ : ∃ y, y = w7.heap.size := ⟨_, rfl⟩
        have hyl : w7.heap.size ≤ y := Nat.le_of_eq hy.symm
        have HNY := hide (Nblk.new w7 false none none 0 0 0 0)
        rw [← hy] at HNY ⊢
        clear hy
        have HBA := hide (below_alloc w7 (.cells #[.bool false, .slice none 0 0, .slice none 0 0] 25))
        generalize w7.alloc (.cells #[.bool false, .slice none 0 0, .slice none 0 0] 25) = w8 at *
        go_loopw [6] (fun i wr => ∃ (k : Nat) (acc : List Kd) (ac : Option Addr) (cc : Nat), k ≤ N ∧ i = .int .i64 k ∧ acc = (PS.take k).flatten ∧ Nblk wr y false none 0 0 ac acc.length cc ∧ OwnE kv 49 w7.heap.size wr (.slice ac acc.length cc) acc ∧ Below w7.heap.size w7 wr) (fun i _ => N - (intOf i).toNat)
        case atStart => exact ⟨0, [], none, 0, Nat.zero_le _, rfl, rfl, unhide HNY, World.ownsRow_nil _ _ _ _, unhide HBA⟩
        case round =>
          obtain ⟨k, acc, ac, cc, hk, rfl, hacc, hny, hoy, hbr⟩ := hrel
          have HACC := hide hacc
          have HOY := hide hoy
          clear hacc hoy q0
          by_cases hlt : k < N
          · have hlt1 : k < ps1.length := by rw [unhide HL1]; exact hlt
            have hlt2 : k < ps2.length := by rw [unhide HL2]; exact hlt
            obtain ⟨xl, hxl⟩ := get_some hlt1
            obtain ⟨xr, hxr⟩ := get_some hlt2
            have hpx : PS[k]? = some xl.l := by rw [← unhide HE1, List.getElem?_map, hxl]; rfl
            have hpy : PS[k]? = some xr.l := by rw [← unhide HE2, List.getElem?_map, hxr]; rfl
            have hxe : xr.l = xl.l := Option.some.inj (hpy.symm.trans hpx)
            have HPX := hide hpx
            have hmem : xl.l ∈ PS := List.mem_of_getElem? hpx
            have hxlen : xl.l.length ≤ 1100 := Nat.le_trans (part_len hmem) (by rw [unhide HFL]; exact hkl)
            have hack : acc.length ≤ 1100 := by
              have h1 := take_len PS k
              rw [← unhide HACC, unhide HFL] at h1
              exact Nat.le_trans h1 hkl
            have HXM := hide (List.mem_of_getElem? hxl)
            obtain ⟨g1, rfl, hg1, hc1⟩ := (unhide HO1).at pcK_len hlt1
            obtain ⟨g2, rfl, hg2, hc2⟩ := (unhide HO2).at pcK_len hlt2
            have r10 := hc1 k xl hxl 0 (by decide)
            have r11 := hc1 k xl hxl 1 (by decide)
            have r12 := hc1 k xl hxl 2 (by decide)
            have r20 := hc2 k xr hxr 0 (by decide)
            have r21 := hc2 k xr hxr 1 (by decide)
            have r22 := hc2 k xr hxr 2 (by decide)
            simp only [pcK, List.getElem?_cons_zero, List.getElem?_cons_succ, Nat.add_zero, hxe] at r10 r11 r12 r20 r21 r22
            have HK12 := hide (fun (w' : World) (h : Below w7.heap.size w7 w') => (⟨h, cell_keep r10 h, cell_keep r11 h, cell_keep r12 h, cell_keep r20 h, cell_keep r21 h, cell_keep r22 h⟩ : Below w7.heap.size w7 w' ∧ w'.cell? ⟨g1, k * 3, none⟩ = some (.bool false) ∧ w'.cell? ⟨g1, k * 3 + 1, none⟩ = some (.slice xl.a2 0 xl.cap2) ∧ w'.cell? ⟨g1, k * 3 + 2, none⟩ = some (.slice xl.a xl.l.length xl.cap) ∧ w'.cell? ⟨g2, k * 3, none⟩ = some (.bool false) ∧ w'.cell? ⟨g2, k * 3 + 1, none⟩ = some (.slice xr.a2 0 xr.cap2) ∧ w'.cell? ⟨g2, k * 3 + 2, none⟩ = some (.slice xr.a xl.l.length xr.cap)))
            have HK141 := hide (fun (w' : World) (h : Below w7.heap.size w7 w') => (⟨h, cell_keep r11 h⟩ : Below w7.heap.size w7 w' ∧ w'.cell? ⟨g1, k * 3 + 1, none⟩ = some (.slice xl.a2 0 xl.cap2)))
            have HK142 := hide (fun (w' : World) (h : Below w7.heap.size w7 w') => (⟨h, cell_keep r12 h⟩ : Below w7.heap.size w7 w' ∧ w'.cell? ⟨g1, k * 3 + 2, none⟩ = some (.slice xl.a xl.l.length xl.cap)))
            have orr := (unhide HO2).its xr (List.mem_of_getElem? hxr)
            rw [hxe] at orr
            have HHA := hide (fun (w' : World) (h : Below w7.heap.size w7 w') => (⟨.inl rfl, (((unhide HO1).its xl (unhide HXM)).row).grow h⟩ : Has w' (⟨false, [], xl.l⟩ : Nd) xl.a2 xl.a))
            have HHB := hide (fun (w' : World) (h : Below w7.heap.size w7 w') => (⟨.inl rfl, orr.row.grow h⟩ : Has w' (⟨false, [], xl.l⟩ : Nd) xr.a2 xr.a))
            have HCK := hide (fun (w' : World) (h : Below w7.heap.size w7 w') => check_any (⟨false, [], xl.l⟩ : Nd) xl.a2 xl.a xl.cap2 xl.cap w' (unhide HHA w' h) (by first | exact Nat.zero_le _ | exact hxlen) (by first | exact Nat.zero_le _ | exact hxlen))
            rw [unhide HOK _ hmem] at HCK
            have i1 : (k : Int) < (N : Int) := by omega
            clear hxl hxr hpx hpy hxe hmem hc1 hc2 orr r10 r11 r12 r20 r21 r22 hlt1 hlt2 hg1 hg2
            go_wp2_with fail
            refine wp_region_noPanic ?_
            refine wp_region_held_drew (S := fun w' => Below w7.heap.size w7 w' ∧ w'.cell? ⟨g1, k * 3, none⟩ = some (.bool false) ∧ w'.cell? ⟨g1, k * 3 + 1, none⟩ = some (.slice xl.a2 0 xl.cap2) ∧ w'.cell? ⟨g1, k * 3 + 2, none⟩ = some (.slice xl.a xl.l.length xl.cap) ∧ w'.cell? ⟨g2, k * 3, none⟩ = some (.bool false) ∧ w'.cell? ⟨g2, k * 3 + 1, none⟩ = some (.slice xr.a2 0 xr.cap2) ∧ w'.cell? ⟨g2, k * 3 + 2, none⟩ = some (.slice xr.a xl.l.length xr.cap)) (by kernel_rfl) (unhide HK12 _ (hbr.drew)) (fun hHeld => ?_)
            refine takeY 0 (some 47) ?_ rfl rfl (by kernel_rfl) (by kernel_rfl) (by kernel_rfl) (fun _ _ _ h => h) (by rfl) ?_ hHeld ?_
            rotate_left
            · intro w hSw; (try dsimp only at hSw); go_simp <;> with_reducible rfl
            simp only [Act.put, List.setIfInBounds_toArray, List.set_cons_zero, List.set_cons_succ]
            refine takeY 1 (some 48) ?_ rfl rfl (by kernel_rfl) (by kernel_rfl) (by kernel_rfl) (fun _ _ _ h => h) (by rfl) ?_ hHeld ?_
            rotate_left
            · intro w hSw; (try dsimp only at hSw); go_simp <;> with_reducible rfl
            simp only [Act.put, List.setIfInBounds_toArray, List.set_cons_zero, List.set_cons_succ]
            refine takeY 2 (some 49) ?_ rfl rfl (by kernel_rfl) (by kernel_rfl) (by kernel_rfl) (fun _ _ _ h => h) (by rfl) ?_ hHeld ?_
            rotate_left
            · intro w hSw; (try dsimp only at hSw); go_simp <;> with_reducible rfl
            simp only [Act.put, List.setIfInBounds_toArray, List.set_cons_zero, List.set_cons_succ]
            refine takeY 3 (some 50) ?_ rfl rfl (by kernel_rfl) (by kernel_rfl) (by kernel_rfl) (fun _ _ _ h => h) (by rfl) ?_ hHeld ?_
            rotate_left
            · intro w hSw; (try dsimp only at hSw); go_simp <;> with_reducible rfl
            simp only [Act.put, List.setIfInBounds_toArray, List.set_cons_zero, List.set_cons_succ]
            refine takeY 4 (some 51) ?_ rfl rfl (by kernel_rfl) (by kernel_rfl) (by kernel_rfl) (fun _ _ _ h => h) (by rfl) ?_ hHeld ?_
            rotate_left
            · intro w hSw; (try dsimp only at hSw); go_simp <;> with_reducible rfl
            simp only [Act.put, List.setIfInBounds_toArray, List.set_cons_zero, List.set_cons_succ]
            refine takeY 5 (some 52) ?_ rfl rfl (by kernel_rfl) (by kernel_rfl) (by kernel_rfl) (fun _ _ _ h => h) (by rfl) ?_ hHeld ?_
            rotate_left
            · intro w hSw; (try dsimp only at hSw); go_simp <;> with_reducible rfl
            simp only [Act.put, List.setIfInBounds_toArray, List.set_cons_zero, List.set_cons_succ]
            refine takeY 6 (some 53) ?_ rfl rfl (by kernel_rfl) (by kernel_rfl) (by kernel_rfl) (fun _ _ _ h => h) (by rfl) ?_ hHeld ?_
            rotate_left
            · intro w hSw; (try dsimp only at hSw); go_simp <;> with_reducible rfl
            simp only [Act.put, List.setIfInBounds_toArray, List.set_cons_zero, List.set_cons_succ]
            refine takeY 7 (some 54) ?_ rfl rfl (by kernel_rfl) (by kernel_rfl) (by kernel_rfl) (fun _ _ _ h => h) (by rfl) ?_ hHeld ?_
            rotate_left
            · intro w hSw; (try dsimp only at hSw); go_simp <;> with_reducible rfl
            simp only [Act.put, List.setIfInBounds_toArray, List.set_cons_zero, List.set_cons_succ]
            obtain ⟨wX, hwX⟩ : ∃ y, y = wr.drew := ⟨_, rfl⟩
            have hbX : Below w7.heap.size w7 wX := by rw [hwX]; exact hbr.drew
            have hbR : Below wr.heap.size wr wX := by rw [hwX]; exact below_drew wr
            rw [← hwX] at hHeld ⊢
            clear hwX
            refine wpAnyH_ready (rs := [8]) (by kernel_rfl) (by simp) ?_
            refine AllReadyH.cons rfl (fun K hK => ?_) AllReadyH.nil
            go_simp
            refine (same_any (⟨false, [], xl.l⟩ : Nd) xl.a2 xl.a xr.a2 xr.a xl.cap2 xl.cap xr.cap2 xr.cap wX (unhide HHA _ hbX) (unhide HHB _ hbX) (by first | exact Nat.zero_le _ | exact Nat.le_trans hxlen (by decide)) (by first | exact Nat.zero_le _ | exact Nat.le_trans hxlen (by decide))).mono ?_
            rintro x wY ⟨rfl, hb⟩
            have hbX := below_then hbX hb
            have hbR := below_then hbR hb
            clear hb
            refine hK.out _ _ (unhide HK12 _ hbX) (fun hHeld => ?_)
            clear hK K
            try simp only [Act.put, List.setIfInBounds_toArray, List.set_cons_zero, List.set_cons_succ]
            refine takeY 9 (some 56) ?_ rfl rfl (by kernel_rfl) (by kernel_rfl) (by kernel_rfl) (fun _ _ _ h => h) (by rfl) ?_ hHeld ?_
            rotate_left
            · intro w hSw; (try dsimp only at hSw); go_simp <;> with_reducible rfl
            simp only [Act.put, List.setIfInBounds_toArray, List.set_cons_zero, List.set_cons_succ]
            refine takeY 10 (some 57) ?_ rfl rfl (by kernel_rfl) (by kernel_rfl) (by kernel_rfl) (fun _ _ _ h => h) (by rfl) ?_ hHeld ?_
            rotate_left
            · intro w hSw; (try dsimp only at hSw); go_simp <;> with_reducible rfl
            simp only [Act.put, List.setIfInBounds_toArray, List.set_cons_zero, List.set_cons_succ]
            refine takeY 11 (some 58) ?_ rfl rfl (by kernel_rfl) (by kernel_rfl) (by kernel_rfl) (fun _ _ _ h => h) (by rfl) ?_ hHeld ?_
            rotate_left
            · intro w hSw; (try dsimp only at hSw); go_simp <;> with_reducible rfl
            simp only [Act.put, List.setIfInBounds_toArray, List.set_cons_zero, List.set_cons_succ]
            refine takeY 12 (some 59) ?_ rfl rfl (by kernel_rfl) (by kernel_rfl) (by kernel_rfl) (fun _ _ _ h => h) (by rfl) ?_ hHeld ?_
            rotate_left
            · intro w hSw; (try dsimp only at hSw); go_simp <;> with_reducible rfl
            simp only [Act.put, List.setIfInBounds_toArray, List.set_cons_zero, List.set_cons_succ]
            refine takeY 13 (some 60) ?_ rfl rfl (by kernel_rfl) (by kernel_rfl) (by kernel_rfl) (fun _ _ _ h => h) (by rfl) ?_ hHeld ?_
            rotate_left
            · intro w hSw; (try dsimp only at hSw); go_simp <;> with_reducible rfl
            simp only [Act.put, List.setIfInBounds_toArray, List.set_cons_zero, List.set_cons_succ]
            refine takeY 14 (some 61) ?_ rfl rfl (by kernel_rfl) (by kernel_rfl) (by kernel_rfl) (fun _ _ _ h => h) (by rfl) ?_ hHeld ?_
            rotate_left
            · intro w hSw; (try dsimp only at hSw); go_simp <;> with_reducible rfl
            simp only [Act.put, List.setIfInBounds_toArray, List.set_cons_zero, List.set_cons_succ]
            refine wpAnyH_ready (rs := [15]) (by kernel_rfl) (by simp) ?_
            refine AllReadyH.cons rfl (fun K hK => ?_) AllReadyH.nil
            go_simp
            refine (unhide HCK wY hbX).mono ?_
            rintro x wZ ⟨rfl, hb⟩
            have hbX := below_then hbX hb
            have hbR := below_then hbR hb
            clear hb
            refine hK.out _ _ (unhide HK12 _ hbX) (fun hHeld => ?_)
            clear hK K
            try simp only [Act.put, List.setIfInBounds_toArray, List.set_cons_zero, List.set_cons_succ]
            refine takeY 16 (some 63) ?_ rfl rfl (by kernel_rfl) (by kernel_rfl) (by kernel_rfl) (fun _ _ _ h => h) (by rfl) ?_ hHeld ?_
            rotate_left
            · intro w hSw; (try dsimp only at hSw); go_simp <;> with_reducible rfl
            simp only [Act.put, List.setIfInBounds_toArray, List.set_cons_zero, List.set_cons_succ]
            refine takeY 17 (some 64) ?_ rfl rfl (by kernel_rfl) (by kernel_rfl) (by kernel_rfl) (fun _ _ _ h => h) (by rfl) ?_ hHeld ?_
            rotate_left
            · intro w hSw; (try dsimp only at hSw); go_simp <;> with_reducible rfl
            simp only [Act.put, List.setIfInBounds_toArray, List.set_cons_zero, List.set_cons_succ]
            refine wpAnyH_done (by kernel_rfl) ?_ _
            refine NoPanic.normal ?_
            have hnywZ := hny.below hbR
            have HOYwZ := hide ((unhide HOY).below hbR)
            have hbwZ := hbX
            clear hHeld
            go_wp2_with fail
            refine wp_region_noPanic ?_
            refine wp_region_held_drew (S := fun w' => Below w7.heap.size w7 w' ∧ w'.cell? ⟨g1, k * 3 + 1, none⟩ = some (.slice xl.a2 0 xl.cap2)) (by kernel_rfl) (unhide HK141 _ hbwZ.drew) (fun hHeld => ?_)
            obtain ⟨wU, hwX⟩ : ∃ y, y = wZ.drew := ⟨_, rfl⟩
            have hbwU : Below w7.heap.size w7 wU := by rw [hwX]; exact hbwZ.drew
            have nywU := hnywZ.below (below_drew wZ)
            have oywU := (unhide HOYwZ).below (below_drew wZ)
            rw [← hwX] at nywU oywU hHeld ⊢
            clear hwX
            refine takeY 0 (some 65) ?_ rfl rfl (by kernel_rfl) (by kernel_rfl) (by kernel_rfl) (fun _ _ _ h => h) (by rfl) ?_ hHeld ?_
            rotate_left
            · intro w hSw; (try dsimp only at hSw); go_simp <;> with_reducible rfl
            simp only [Act.put, List.setIfInBounds_toArray, List.set_cons_zero, List.set_cons_succ]
            refine takeY 2 (some 67) ?_ rfl rfl (by kernel_rfl) (by kernel_rfl) (by kernel_rfl) (fun _ _ _ h => h) (by rfl) ?_ hHeld ?_
            rotate_left
            · intro w hSw; (try dsimp only at hSw); go_simp <;> with_reducible rfl
            simp only [Act.put, List.setIfInBounds_toArray, List.set_cons_zero, List.set_cons_succ]
            refine takeY 3 (some 68) ?_ rfl rfl (by kernel_rfl) (by kernel_rfl) (by kernel_rfl) (fun _ _ _ h => h) (by rfl) ?_ hHeld ?_
            rotate_left
            · intro w hSw; (try dsimp only at hSw); go_simp <;> with_reducible rfl
            simp only [Act.put, List.setIfInBounds_toArray, List.set_cons_zero, List.set_cons_succ]
            refine takeY 4 (some 69) ?_ rfl rfl (by kernel_rfl) (by kernel_rfl) (by kernel_rfl) (fun _ _ _ h => h) (by rfl) ?_ hHeld ?_
            rotate_left
            · intro w hSw; (try dsimp only at hSw); go_simp <;> with_reducible rfl
            simp only [Act.put, List.setIfInBounds_toArray, List.set_cons_zero, List.set_cons_succ]
            refine takeY 5 (some 70) ?_ rfl rfl (by kernel_rfl) (by kernel_rfl) (by kernel_rfl) (fun _ _ _ h => h) (by rfl) ?_ hHeld ?_
            rotate_left
            · intro w hSw; (try dsimp only at hSw); go_simp <;> with_reducible rfl
            simp only [Act.put, List.setIfInBounds_toArray, List.set_cons_zero, List.set_cons_succ]
            refine takeY 6 (some 71) ?_ rfl rfl (by kernel_rfl) (by kernel_rfl) (by kernel_rfl) (fun _ _ _ h => h) (by rfl) ?_ hHeld ?_
            rotate_left
            · intro w hSw; (try dsimp only at hSw); go_simp <;> with_reducible rfl
            simp only [Act.put, List.setIfInBounds_toArray, List.set_cons_zero, List.set_cons_succ]
            have ld := nywU.cell1
            have fz := nywU.free 1
            refine wpAnyH_ready (rs := [1]) (by kernel_rfl) (by simp) ?_
            refine AllReadyH.cons rfl (fun K hK => ?_) AllReadyH.nil
            go_simp
            refine hK.out _ _ (hHeld) (fun hHeld => ?_)
            clear hK K
            try simp only [Act.put, List.setIfInBounds_toArray, List.set_cons_zero, List.set_cons_succ]
            refine wpAnyH_ready (rs := [7]) (by kernel_rfl) (by simp) ?_
            refine AllReadyH.cons rfl (fun K hK => ?_) AllReadyH.nil
            refine step_none (t := 22) rfl Try.underlying22 info47 _ _ rfl rfl rfl ?_
            refine hK.out _ _ (hHeld) (fun hHeld => ?_)
            clear hK K
            try simp only [Act.put, List.setIfInBounds_toArray]
            have hbS := hbwU
            have nyS := nywU
            have HOS := hide oywU
            refine takeY 8 (some 73) ?_ rfl rfl (by kernel_rfl) (by kernel_rfl) (by kernel_rfl) (fun _ _ _ h => h) (by rfl) ?_ hHeld ?_
            rotate_left
            · intro w hSw; (try dsimp only at hSw); go_simp <;> with_reducible rfl
            simp only [Act.put]
            refine wpAnyH_ready (rs := [9]) (by kernel_rfl) (by simp) ?_
            refine AllReadyH.cons rfl (fun K hK => ?_) AllReadyH.nil
            go_simp
            have hbE := hbS.setCell (p := ⟨y, 1, none⟩) hyl (.slice none 0 0)
            refine hK.out _ _ (unhide HK141 _ hbE) (fun hHeld => ?_)
            clear hK K
            try simp only [Act.put]
            have hnyE := nyS.set1 none 0 0
            have HOE := hide ((unhide HOS).set nyS (by decide) 1 (.slice none 0 0))
            refine wpAnyH_done (by kernel_rfl) ?_ _
            refine NoPanic.normal ?_
            clear ld fz nyS hbS HOS
            generalize wU.setCell ⟨y, 1, none⟩ (.slice none 0 0) = wV at *
            have hbwV := hbE
            have hnywV := hnyE
            have HOYwV := HOE
            clear hbE hnyE HOE
            clear hHeld
            go_wp2_with fail
            refine wp_region_noPanic ?_
            refine wp_region_held_drew (S := fun w' => Below w7.heap.size w7 w' ∧ w'.cell? ⟨g1, k * 3 + 2, none⟩ = some (.slice xl.a xl.l.length xl.cap)) (by kernel_rfl) (unhide HK142 _ hbwV.drew) (fun hHeld => ?_)
            obtain ⟨wT, hwX⟩ : ∃ y, y = wV.drew := ⟨_, rfl⟩
            have hbwT : Below w7.heap.size w7 wT := by rw [hwX]; exact hbwV.drew
            have nywT := hnywV.below (below_drew wV)
            have oywT := (unhide HOYwV).below (below_drew wV)
            rw [← hwX] at nywT oywT hHeld ⊢
            clear hwX
            refine takeY 0 (some 74) ?_ rfl rfl (by kernel_rfl) (by kernel_rfl) (by kernel_rfl) (fun _ _ _ h => h) (by rfl) ?_ hHeld ?_
            rotate_left
            · intro w hSw; (try dsimp only at hSw); go_simp <;> with_reducible rfl
            simp only [Act.put, List.setIfInBounds_toArray, List.set_cons_zero, List.set_cons_succ]
            refine takeY 2 (some 76) ?_ rfl rfl (by kernel_rfl) (by kernel_rfl) (by kernel_rfl) (fun _ _ _ h => h) (by rfl) ?_ hHeld ?_
            rotate_left
            · intro w hSw; (try dsimp only at hSw); go_simp <;> with_reducible rfl
            simp only [Act.put, List.setIfInBounds_toArray, List.set_cons_zero, List.set_cons_succ]
            refine takeY 3 (some 77) ?_ rfl rfl (by kernel_rfl) (by kernel_rfl) (by kernel_rfl) (fun _ _ _ h => h) (by rfl) ?_ hHeld ?_
            rotate_left
            · intro w hSw; (try dsimp only at hSw); go_simp <;> with_reducible rfl
            simp only [Act.put, List.setIfInBounds_toArray, List.set_cons_zero, List.set_cons_succ]
            refine takeY 4 (some 78) ?_ rfl rfl (by kernel_rfl) (by kernel_rfl) (by kernel_rfl) (fun _ _ _ h => h) (by rfl) ?_ hHeld ?_
            rotate_left
            · intro w hSw; (try dsimp only at hSw); go_simp <;> with_reducible rfl
            simp only [Act.put, List.setIfInBounds_toArray, List.set_cons_zero, List.set_cons_succ]
            refine takeY 5 (some 79) ?_ rfl rfl (by kernel_rfl) (by kernel_rfl) (by kernel_rfl) (fun _ _ _ h => h) (by rfl) ?_ hHeld ?_
            rotate_left
            · intro w hSw; (try dsimp only at hSw); go_simp <;> with_reducible rfl
            simp only [Act.put, List.setIfInBounds_toArray, List.set_cons_zero, List.set_cons_succ]
            refine takeY 6 (some 80) ?_ rfl rfl (by kernel_rfl) (by kernel_rfl) (by kernel_rfl) (fun _ _ _ h => h) (by rfl) ?_ hHeld ?_
            rotate_left
            · intro w hSw; (try dsimp only at hSw); go_simp <;> with_reducible rfl
            simp only [Act.put, List.setIfInBounds_toArray, List.set_cons_zero, List.set_cons_succ]
            have ld := nywT.cell2
            have fz := nywT.free 2
            refine wpAnyH_ready (rs := [1]) (by kernel_rfl) (by simp) ?_
            refine AllReadyH.cons rfl (fun K hK => ?_) AllReadyH.nil
            go_simp
            refine hK.out _ _ (hHeld) (fun hHeld => ?_)
            clear hK K
            try simp only [Act.put, List.setIfInBounds_toArray, List.set_cons_zero, List.set_cons_succ]
            refine wpAnyH_ready (rs := [7]) (by kernel_rfl) (by simp) ?_
            refine AllReadyH.cons rfl (fun K hK => ?_) AllReadyH.nil
            refine step_src (t := 23) (B := w7.heap.size) (v := .slice ac acc.length cc) (xs := pairs kv acc) (ys := pairs kv xl.l) rfl Try.underlying23 info49 rfl (by decide) _ _ rfl rfl rfl oywT (ownsRow_base (((unhide HO1).its xl (unhide HXM)).below hbwT) (Nat.zero_le _)) (pairs_one (fun _ => rfl) _) (by omega) (by omega) hbwT.size ?_
            intro v' wS ho hg _
            obtain ⟨as', cs', rfl⟩ := ownsRow_form ho
            have hbS : Below w7.heap.size w7 wS := hbwT.grown hg hbwT.size (fun g hgg => (World.ownsRow.lt oywT g hgg).1)
            have nyS := nywT.grown hg (oywT.other nywT (by decide))
            have ld := nyS.cell2
            have fz := nyS.free 2
            have HOS := hide (OwnE.joins ho)
            clear ho hg
            refine hK.out _ _ (unhide HK142 _ hbS) (fun hHeld => ?_)
            clear hK K
            try simp only [Act.put, List.setIfInBounds_toArray]
            refine takeY 8 (some 82) ?_ rfl rfl (by kernel_rfl) (by kernel_rfl) (by kernel_rfl) (fun _ _ _ h => h) (by rfl) ?_ hHeld ?_
            rotate_left
            · intro w hSw; (try dsimp only at hSw); go_simp <;> with_reducible rfl
            simp only [Act.put]
            refine wpAnyH_ready (rs := [9]) (by kernel_rfl) (by simp) ?_
            refine AllReadyH.cons rfl (fun K hK => ?_) AllReadyH.nil
            go_simp
            have hbE := hbS.setCell (p := ⟨y, 2, none⟩) hyl (.slice as' (acc.length + xl.l.length) cs')
            refine hK.out _ _ (unhide HK142 _ hbE) (fun hHeld => ?_)
            clear hK K
            try simp only [Act.put]
            have hnyE := nyS.set2 as' (acc.length + xl.l.length) cs'
            have HOE := hide ((unhide HOS).set nyS (by decide) 2 (.slice as' (acc.length + xl.l.length) cs'))
            refine wpAnyH_done (by kernel_rfl) ?_ _
            refine NoPanic.normal ?_
            clear ld fz nyS hbS HOS
            generalize wS.setCell ⟨y, 2, none⟩ (.slice as' (acc.length + xl.l.length) cs') = wE at *
            have hbwE := hbE
            have hnywE := hnyE
            have HOYwE := HOE
            clear hbE hnyE HOE
            clear hHeld
            go_wp2_with fail
            go_roundw
            case rel =>
              have hlen : (acc ++ xl.l).length = acc.length + xl.l.length := List.length_append
              refine ⟨k + 1, acc ++ xl.l, as', cs', by omega, by go_num, ?_, ?_, ?_, hbwE⟩
              · rw [unhide HACC]
                exact take_next (unhide HPX)
              · rw [hlen]
                exact hnywE
              · rw [hlen]
                exact unhide HOYwE
            case measure => simp [intOf]; omega
          · have hke : k = PS.length := by have := unhide HNP; omega
            have hfin : acc = its := by
              rw [unhide HACC, hke, List.take_length]
              exact unhide HFL
            have i1 : ¬ (k : Int) < (N : Int) := by omega
            have hoy := unhide HOY
            rw [hfin] at hny hoy
            have y0 := hny.cell0
            have y1 := hny.cell1
            have y2 := hny.cell2
            have hbw := below_then (unhide HB7) hbr
            have q0 := (unhide HKS _ hbw).2.1
            have q1 := (unhide HKS _ hbw).2.2.1
            have q2 := (unhide HKS _ hbw).2.2.2
            have HSM := hide (same_any (⟨false, [], its⟩ : Nd) none ac ai ak 0 cc ci ck wr ⟨.inl rfl, hoy.row⟩ ((unhide HN3).grow hbw) (by first | exact Nat.zero_le _ | exact Nat.le_trans hkl (by decide)) (by first | exact Nat.zero_le _ | exact Nat.le_trans hkl (by decide)))
            have HBF := hide (below_then (unhide HB) hbw)
            clear hny hoy hbw hbr hfin hke HOY HACC
            go_wp2_with fail
            refine (unhide HSM).mono ?_
            rintro x w9 ⟨rfl, hb⟩
            have HBF := hide (below_then (unhide HBF) hb)
            clear hb
            go_wp2
            go_ret
            exact ⟨rfl, unhide HBF⟩
end Go.Proofs.Ytepkifledonldaa
