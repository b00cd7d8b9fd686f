/- The law AllocOnce. -/
import Derived.Test.YtkfpeffiphdhmaaOnce
namespace Go.Proofs.Ytkfpeffiphdhmaa
open Go.ChangeShapes Go.WideShapes Go.ChangeAt Go.RowKit

set_option maxHeartbeats 8000000 in
set_option maxRecDepth 20000 in
theorem once_walk (f : Nat → Cl) (n : Int) (a : Option Addr) (len cap : Nat) (W : World) (h : IsCalls W a len f) :
    Calls Try.prog 4 #[.int .i64 n, .slice a len cap] W fun e w' => e = .returned (.bool true) ∧ Below W.heap.size W w' := by
  have HI := hide h
  clear h
  go_enter Try.func4, Try.ntmps4
  go_wp2_with fail
  refine (awake_any W).mono ?_
  rintro e w1 ⟨rfl, hb1⟩
  have HB1 := hide hb1
  clear hb1
  by_cases g1 : n < 0
  · go_wp2
    go_ret
    exact ⟨rfl, unhide HB1⟩
  by_cases g2 : 40 < n
  · go_wp2
    go_ret
    exact ⟨rfl, unhide HB1⟩
  by_cases g3 : 200 < (len : Int)
  · go_wp2
    go_ret
    exact ⟨rfl, unhide HB1⟩
  obtain ⟨S, rfl⟩ : ∃ S : Nat, n = (S : Int) := ⟨n.toNat, by omega⟩
  have hS : S ≤ 40 := by omega
  have hlen : len ≤ 200 := by omega
  have hwS : IntKind.i64.wrap (2 + (S : Int)) = ((S + 2 : Nat) : Int) := by rw [IntKind.wrap_i64]; omega
  have HN : Hid (Calls Try.prog 9 #[.int .i64 2, .int .i64 ((S + 2 : Nat) : Int)] w1 fun e w' => ∃ d b, e = .returned (.tuple #[.pointer (some ⟨d, 0, none⟩), .int .i64 0]) ∧ AllocAt w' d b 2 (newM 2 (S + 2)) ∧ Below w1.heap.size w1 w' ∧ w1.heap.size ≤ d ∧ w1.heap.size ≤ b) := new_ok 2 (S + 2) w1 (by omega) (by omega)
  go_wp2_with fail
  refine (unhide HN).mono ?_
  rintro e w2 ⟨d, b, rfl, hA, hb, hnd, hnb⟩
  have HS : Hid (Stp W w2 d b 2 (newM 2 (S + 2))) := ⟨hA, (unhide HB1).trans (hb.mono (unhide HB1).size), Nat.le_trans (unhide HB1).size hnb⟩
  clear hA hb hnb HN HB1 hnd
  go_wp2_with fail
  obtain ⟨hb, ehb⟩ : ∃ x, x = w2.heap.size := ⟨_, rfl⟩
  obtain ⟨wb, ewb⟩ : ∃ x, x = w2.heap.size + 1 := ⟨_, rfl⟩
  obtain ⟨bb, ebb⟩ : ∃ x, x = w2.heap.size + 2 := ⟨_, rfl⟩
  obtain ⟨ub, eub⟩ : ∃ x, x = w2.heap.size + 3 := ⟨_, rfl⟩
  rw [← eub, ← ebb, ← ewb, ← ehb]
  go_loopw [11] (fun v wr => ∃ (k : Nat) (l : List St) (H Wt : Nat → Bool) (B U : Nat → Int), k ≤ len ∧ v = .int .i64 (k : Int) ∧ l.length = S ∧ Mem W wr d b hb wb bb ub l H Wt B U ∧ Told l H Wt B U) (fun v _ => len - (intOf v).toNat)
  case atStart =>
    refine ⟨0, newM 2 (S + 2), fun _ => false, fun _ => false, fun _ => 0, fun _ => 0, Nat.zero_le _, rfl, by unfold newM; rw [List.length_replicate]; omega, ?_, Told.new _⟩
    rw [ehb, ewb, ebb, eub]
    exact mem_new (unhide HS) _ _ _ _ rfl rfl rfl rfl
  case round =>
    clear HS ehb ewb ebb eub
    obtain ⟨k, l, H, Wt, B, U, hk, rfl, hl, hM, hT⟩ := hrel
    have HL := hide hl
    have HM := hide hM
    have HT := hide hT
    clear hl hM hT
    by_cases hlt : k < len
    · have hlt' : (k : Int) < (len : Int) := by omega
      obtain ⟨_, h0 | ⟨bk, off, rfl, hc⟩⟩ := unhide HI
      · omega
      have hck := (hc k hlt).grow (unhide HM).s.bel (Nat.le_refl _)
      have c0 := hck.c0
      have c1 := hck.c1
      have c2 := hck.c2
      have HBD := hide (And.intro hck.bn hck.bg)
      have HMA := hide ((unhide HM).grow ((Below.refl _ wr).alloc (Nat.le_refl _) (.cells #[.int .i64 (f k).k, .int .i64 (f k).n, .int .i64 (f k).g] 32)))
      have HNP := hide ((unhide HM).apart (Nat.le_refl _))
      clear hc hck HM
      generalize (f k).k = ck at *
      generalize (f k).n = cn at *
      generalize (f k).g = cg at *
      by_cases k0 : ck = 0
      · subst k0
        go_wp2_with fail
        have q2 : (wr.alloc (.cells #[.int .i64 0, .int .i64 cn, .int .i64 cg] 32)).cell? ⟨wr.heap.size, 2, none⟩ = some (.int .i64 cg) := by simp
        obtain ⟨p, hp⟩ : ∃ y, y = wr.heap.size := ⟨_, rfl⟩
        rw [← hp] at q2 HNP ⊢
        clear hp c0 c1 c2
        generalize wr.alloc (.cells #[.int .i64 0, .int .i64 cn, .int .i64 cg] 32) = wa at *
        refine (take_any cg (unhide HBD).2 _ (unhide HMA).s.al).mono ?_
        rintro e w3 ⟨rfl, hA3, hm3⟩
        cases htk : takeI l with
        | none =>
          have en : takeN 2 l = 0 := by unfold takeN; rw [htk]
          have ee : takeE l = 50 := by unfold takeE; rw [htk]
          have em : takeM l cg = l := by unfold takeM; rw [htk]
          have er : (room l : Int) = 0 := by rw [Told.room htk]; rfl
          rw [em] at hA3
          rw [en, ee]
          have HM3 := hide ((unhide HMA).turn hA3 hm3)
          have HER := hide er
          clear hA3 hm3 en ee em er htk
          go_wp2_with fail
          refine (room_any _ (unhide HM3).s.al).mono ?_
          rintro e w4 ⟨rfl, hb4⟩
          rw [unhide HER]
          have HM4 := hide ((unhide HM3).grow hb4)
          clear hb4
          go_wp2
          go_roundw
          case rel => exact ⟨k + 1, l, H, Wt, B, U, by omega, by go_num, unhide HL, unhide HM4, unhide HT⟩
          case measure => simp [intOf]; omega
        | some i =>
          have hil : i < l.length := by
            unfold takeI at htk
            rw [List.findIdx?_eq_some_iff_getElem] at htk
            exact htk.1
          have hin : l[i]? = some none := by
            have h1 := htk
            unfold takeI at h1
            rw [List.findIdx?_eq_some_iff_getElem] at h1
            obtain ⟨_, h2, _⟩ := h1
            rw [List.getElem?_eq_getElem hil, (freeS_iff _).1 h2]
          have en : takeN 2 l = ((i + 2 : Nat) : Int) := by unfold takeN; rw [htk]; show (2 : Int) + (i : Int) = _; omega
          have ee : takeE l = 0 := by unfold takeE; rw [htk]
          have em : takeM l cg = l.set i (some (1, cg)) := by unfold takeM; rw [htk]
          rw [em] at hA3
          rw [en, ee]
          have hM3 := (unhide HMA).turn hA3 hm3
          have z2 := hm3.cell q2 (by have := (unhide HNP).2.2.2.2; simpa using this)
          have hT2 := (unhide HT).take cg hin
          have hHW : H (i + 2) = false ∧ Wt (i + 2) = false := by
            rcases unhide HT i none hin with ⟨_, h1, h2⟩ | ⟨h1, _⟩ | ⟨h1, _⟩
            · exact ⟨h1, h2⟩
            · cases h1
            · cases h1
          have hlS := unhide HL
          obtain ⟨m, hm⟩ : ∃ m, m = i + 2 := ⟨_, rfl⟩
          rw [← hm] at hT2 hHW ⊢
          have m0 : ¬ (m : Int) < 2 := by omega
          have m1 : ¬ ((S + 2 : Nat) : Int) ≤ (m : Int) := by omega
          have m50 : (m : Int) < 50 := by omega
          have hm50 : m < 50 := by omega
          have y1 := hM3.h.cells m hm50
          have y2 := hM3.wt.cells m hm50
          have y3 := hM3.bn.cells m hm50
          rw [hHW.1] at y1
          rw [hHW.2] at y2
          have f1 := hM3.h.free m
          have f3 := hM3.bn.free m
          have x2 : (w3.setCell ⟨hb, m, none⟩ (.bool true)).cell? ⟨p, 2, none⟩ = some (.int .i64 cg) := (cell_other _ (unhide HNP).1).trans z2
          have x3 : (w3.setCell ⟨hb, m, none⟩ (.bool true)).cell? ⟨bb, m, none⟩ = some (.int .i64 (B m)) := (cell_other _ (fun e => hM3.ne.2.1 e.symm)).trans y3
          have HME := hide ((hM3.setH hm50 true).setB hm50 cg)
          have HT2 := hide hT2
          clear hA3 hm3 en ee em htk hil hin hM3 hT2 hHW hm q2 HMA HT y3
          go_wp2
          go_roundw
          case rel => exact ⟨k + 1, _, _, _, _, _, by omega, by go_num, by rw [List.length_set]; exact unhide HL, unhide HME, unhide HT2⟩
          case measure => simp [intOf]; omega
      by_cases k3 : ck = 3
      · subst k3
        by_cases hc : cntS (sec 2 l cn) = 0
        · go_wp2_with fail
          refine (drop_free cn cg _ (unhide HMA).s.al (unhide HBD).1 hc).mono ?_
          rintro e w3 ⟨rfl, hw3⟩
          subst hw3
          clear hc
          go_wp2
          go_roundw
          case rel => exact ⟨k + 1, l, H, Wt, B, U, by omega, by go_num, unhide HL, unhide HMA, unhide HT⟩
          case measure => simp [intOf]; omega
        · have hi : In 2 l cn := by
            by_cases hi : In 2 l cn
            · exact hi
            · rw [sec_none hi] at hc; exact absurd rfl hc
          obtain ⟨m, rfl⟩ : ∃ m : Nat, cn = (m : Int) := ⟨cn.toNat, by unfold In at hi; omega⟩
          have hlS := unhide HL
          have him : ix 2 (m : Int) + 2 = m := by unfold ix; unfold In at hi; omega
          have hm50 : m < 50 := by unfold In at hi; omega
          have m50 : (m : Int) < 50 := by omega
          have hin := sec_at hi
          have hon := unhide HT _ _ hin
          rw [him] at hon
          have hsec : sec 2 l (m : Int) = some (1, B m) ∧ H m = true := by
            rcases hon with ⟨h1, _⟩ | ⟨h1, h2, _⟩ | ⟨h1, _⟩
            · rw [h1] at hc; exact absurd rfl hc
            · exact ⟨h1, h2⟩
            · rw [h1] at hc; exact absurd rfl hc
          rw [hsec.1] at hin
          have hT2 := (unhide HT).drop (i := ix 2 (m : Int)) cg (by rw [him]; exact hin)
          rw [him] at hT2
          have ede : dropE 2 l (m : Int) = 0 := by unfold dropE; rw [if_neg hc]
          have edm : dropM 2 l (m : Int) cg = l.set (ix 2 (m : Int)) (dropS cg (some (1, B m))) := by unfold dropM; rw [hsec.1, upd_in _ hi]
          have HE := hide (And.intro ede (And.intro edm hsec.2))
          have HT2 := hide hT2
          clear hc hi him hin hon hsec hT2 ede edm HT
          go_wp2_with fail
          have q1 : (wr.alloc (.cells #[.int .i64 3, .int .i64 (m : Int), .int .i64 cg] 32)).cell? ⟨wr.heap.size, 1, none⟩ = some (.int .i64 (m : Int)) := by simp
          have q2 : (wr.alloc (.cells #[.int .i64 3, .int .i64 (m : Int), .int .i64 cg] 32)).cell? ⟨wr.heap.size, 2, none⟩ = some (.int .i64 cg) := by simp
          obtain ⟨p, hp⟩ : ∃ y, y = wr.heap.size := ⟨_, rfl⟩
          rw [← hp] at q1 q2 HNP ⊢
          clear hp c0 c1 c2
          generalize wr.alloc (.cells #[.int .i64 3, .int .i64 (m : Int), .int .i64 cg] 32) = wa at *
          refine (drop_any (m : Int) cg _ (unhide HMA).s.al (unhide HBD).1 (unhide HBD).2).mono ?_
          rintro e w3 ⟨rfl, hA3, hm3⟩
          rw [(unhide HE).1]
          rw [(unhide HE).2.1] at hA3
          have hM3 := (unhide HMA).turn hA3 hm3
          have z1 := hm3.cell q1 (by have := (unhide HNP).2.2.2.2; simpa using this)
          have z2 := hm3.cell q2 (by have := (unhide HNP).2.2.2.2; simpa using this)
          have y1 := hM3.h.cells m hm50
          rw [(unhide HE).2.2] at y1
          have f1 := hM3.h.free m
          have x1 : (w3.setCell ⟨hb, m, none⟩ (.bool false)).cell? ⟨p, 1, none⟩ = some (.int .i64 (m : Int)) := (cell_other _ (unhide HNP).1).trans z1
          have x2 : (w3.setCell ⟨hb, m, none⟩ (.bool false)).cell? ⟨p, 2, none⟩ = some (.int .i64 cg) := (cell_other _ (unhide HNP).1).trans z2
          have hM4 := hM3.setH hm50 false
          have HM4 := hide hM4
          have HX := hide (And.intro x1 x2)
          clear hA3 hm3 q1 q2 HMA hM3 hM4 x1 x2
          go_wp2_with fail
          obtain ⟨x1, x2⟩ := unhide HX
          have hM4 := unhide HM4
          have y2 := hM4.wt.cells m hm50
          have y3 := hM4.bn.cells m hm50
          have f2 := hM4.wt.free m
          have u1 : ∀ v, ((w3.setCell ⟨hb, m, none⟩ (.bool false)).setCell ⟨wb, m, none⟩ v).cell? ⟨p, 1, none⟩ = some (.int .i64 (m : Int)) := fun v => (cell_other _ (unhide HNP).2.1).trans x1
          have u2 : ∀ v, ((w3.setCell ⟨hb, m, none⟩ (.bool false)).setCell ⟨wb, m, none⟩ v).cell? ⟨p, 2, none⟩ = some (.int .i64 cg) := fun v => (cell_other _ (unhide HNP).2.1).trans x2
          have u4 : ∀ v, ((w3.setCell ⟨hb, m, none⟩ (.bool false)).setCell ⟨wb, m, none⟩ v).cell? ⟨ub, m, none⟩ = some (.int .i64 (U m)) := fun v => (cell_other _ (fun e => hM4.ne.2.2.2.2.1 e.symm)).trans (hM4.un.cells m hm50)
          have f4 := hM4.un.free m
          have HME := hide ((hM4.setW hm50 (B m != cg)).setU hm50 cg)
          clear hM4 z1 z2 y1 f1 HX HM4
          generalize w3.setCell ⟨hb, m, none⟩ (.bool false) = w4 at *
          go_region
          all_goals
            go_wp2
            go_roundw
            case rel => exact ⟨k + 1, _, _, _, _, _, by omega, by go_num, by rw [List.length_set]; exact unhide HL, (unhide HME).grow (Below.refl _ _).drew, unhide HT2⟩
            case measure => simp [intOf]; omega
      by_cases k4 : ck = 4
      · subst k4
        go_wp2_with fail
        have q2 : (wr.alloc (.cells #[.int .i64 4, .int .i64 cn, .int .i64 cg] 32)).cell? ⟨wr.heap.size, 2, none⟩ = some (.int .i64 cg) := by simp
        obtain ⟨p, hp⟩ : ∃ y, y = wr.heap.size := ⟨_, rfl⟩
        rw [← hp] at q2 HNP ⊢
        clear hp c0 c1 c2
        generalize wr.alloc (.cells #[.int .i64 4, .int .i64 cn, .int .i64 cg] 32) = wa at *
        go_loopw [15] (fun v wr => ∃ (j : Nat) (Wt' : Nat → Bool), j ≤ 50 ∧ v = .int .i64 (j : Int) ∧ Mem W wr d b hb wb bb ub l H Wt' B U ∧ wr.cell? ⟨p, 2, none⟩ = some (.int .i64 cg) ∧ ∀ i, i < 50 → Wt' i = if i < j then (Wt i && decide (cg < U i)) else Wt i) (fun v _ => 50 - (intOf v).toNat)
        case atStart => exact ⟨0, Wt, Nat.zero_le _, rfl, unhide HMA, q2, fun i _ => by rw [if_neg (Nat.not_lt_zero _)]⟩
        case round =>
          clear HMA q2
          obtain ⟨j, Wt', hj, rfl, hM, q2, hW⟩ := hrel
          by_cases hlt2 : j < 50
          · have j50 : (j : Int) < 50 := by omega
            have y2 := hM.wt.cells j hlt2
            have y4 := hM.un.cells j hlt2
            have f2 := hM.wt.free j
            have hWj := hW j hlt2
            rw [if_neg (Nat.lt_irrefl _)] at hWj
            rw [hWj] at y2
            have nxt : ∀ v : Bool, v = (Wt j && decide (cg < U j)) → ∀ i, i < 50 → fupd Wt' j v i = if i < j + 1 then (Wt i && decide (cg < U i)) else Wt i := by
              intro v hv i hi
              by_cases e : i = j
              · subst e
                rw [fupd_same, if_pos (by omega), hv]
              · rw [fupd_ne _ _ e, hW i hi]
                by_cases h2 : i < j
                · rw [if_pos h2, if_pos (by omega)]
                · rw [if_neg h2, if_neg (by omega)]
            have HX := hide (And.intro hM nxt)
            have x2 : ∀ v, (wr.setCell ⟨wb, j, none⟩ v).cell? ⟨p, 2, none⟩ = some (.int .i64 cg) := fun v => (cell_other _ (unhide HNP).2.1).trans q2
            have HX2 := hide x2
            clear hM hW hWj nxt x2
            cases hwt : Wt j with
            | true =>
              rw [hwt] at y2
              go_wp2_with fail
              go_region
              all_goals
                go_wp2
                go_roundw
                case rel => exact ⟨j + 1, _, by omega, by go_num, ((unhide HX).1.setW hlt2 (decide (cg < U j))).grow (Below.refl _ _).drew, unhide HX2 _, (unhide HX).2 _ (by rw [hwt]; rfl)⟩
                case measure => simp [intOf]; omega
            | false =>
              rw [hwt] at y2
              go_wp2_with fail
              go_region
              all_goals
                go_wp2
                go_roundw
                case rel => exact ⟨j + 1, _, by omega, by go_num, ((unhide HX).1.setW hlt2 false).grow (Below.refl _ _).drew, unhide HX2 _, (unhide HX).2 _ (by rw [hwt]; rfl)⟩
                case measure => simp [intOf]; omega
          · have j50 : ¬ (j : Int) < 50 := by omega
            have hT2 := (unhide HT).free cg (Wt' := Wt') (fun i hi => by rw [hW i hi, if_pos (by omega)]) (by have := unhide HL; omega)
            have HT2 := hide hT2
            have HM := hide hM
            clear hM hW hT2
            go_wp2_with fail
            refine (free_any cg _ (unhide HM).s.al).mono ?_
            rintro e w5 ⟨rfl, hA5, hm5⟩
            have HM5 := hide ((unhide HM).turn hA5 hm5)
            clear hA5 hm5
            go_wp2
            go_roundw
            case rel => exact ⟨k + 1, _, _, _, _, _, by omega, by go_num, by unfold freeM; rw [List.length_map]; exact unhide HL, unhide HM5, unhide HT2⟩
            case measure => simp [intOf]; omega
      go_wp2
      go_roundw
      case rel => exact ⟨k + 1, l, H, Wt, B, U, by omega, by go_num, unhide HL, unhide HMA, unhide HT⟩
      case measure => simp [intOf]; omega
    · have hlt' : ¬ (k : Int) < (len : Int) := by omega
      go_wp2
      go_ret
      exact ⟨rfl, (unhide HM).s.bel⟩
end Go.Proofs.Ytkfpeffiphdhmaa
