/- The law DiskLasts. -/
import Derived.Test.YtmkmebogfcbphaaLast
import Derived.BigQuiet
import Derived.Deep.QuietTactic
namespace Go.Proofs.Ytmkmebogfcbphaa
open Go.ChangeShapes Go.WideShapes Go.ChangeAt Go.RowKit

theorem Stp.rebase2 {W w0 w : World} {d : Nat} {m : Dk} {k : Nat} {fp : List Nat} (hb : Below W.heap.size W w0) (h : Stp w0 w d m k fp) : Stp W w d m k fp :=
  ⟨h.disk, hb.trans (h.bel.mono hb.size), fun x hx => Nat.le_trans hb.size (h.new x hx)⟩

set_option maxHeartbeats 16000000 in
set_option maxRecDepth 20000 in
theorem lasts_walk (f g : Nat → Cl) (fs : List Int) (a0 : Option Addr) (len0 cap0 : Nat) (a1 : Option Addr) (len1 cap1 : Nat) (v : Value) (W : World) (h0 : IsCalls W a0 len0 f) (h1 : IsCalls W a1 len1 g) (h2 : IsInts W v fs ∧ fs.length ≤ maxLen) :
    Calls Try.prog 4 #[.slice a0 len0 cap0, .slice a1 len1 cap1, v] W fun e w' => e = .returned (.bool true) ∧ Below W.heap.size W w' := by
  obtain ⟨hv, hvl⟩ := h2
  obtain ⟨av, capv, rfl, hfs⟩ := id hv
  have HI := hide h0
  have HJ := hide h1
  have HV := hide hv
  clear h0 h1 hv hfs hvl
  go_enter Try.func4, Try.ntmps4
  go_wp2_with (go_at_call 8; refine (awake_any _).mono ?_; rintro e w0 ⟨rfl, hb0⟩; have HB0 := hide hb0; have HI0 := hide ((unhide HI).grow hb0 (Nat.le_refl _)); have HJ0 := hide ((unhide HJ).grow hb0 (Nat.le_refl _)); clear hb0)
  refine (long_any f a0 len0 cap0 w0 (unhide HI0)).mono ?_
  rintro e w' ⟨rfl, rfl | ⟨rfl, hsh⟩⟩
  · go_wp2
    go_ret
    exact ⟨rfl, unhide HB0⟩
  go_wp2_with fail
  refine (long_any g a1 len1 cap1 _ (unhide HJ0)).mono ?_
  rintro e w' ⟨rfl, rfl | ⟨rfl, hsh2⟩⟩
  · go_wp2
    go_ret
    exact ⟨rfl, unhide HB0⟩
  by_cases hfl : 200 < fs.length
  · have hfl' : (200 : Int) < (fs.length : Int) := by omega
    go_wp2
    go_ret
    exact ⟨rfl, unhide HB0⟩
  have hfl' : ¬ (200 : Int) < (fs.length : Int) := by omega
  have hlen0 := hsh.1
  have hlen1 := hsh2.1
  clear hsh hsh2
  go_wp2_with fail
  go_loopw [7, 8] (fun t j wr => ∃ (k : Nat) (L : List Cl), k ≤ len0 ∧ j = .int .i64 (k : Int) ∧ L.length ≤ k ∧ wr.ownsRow W.heap.size 36 6 t L.length (clCells L) ∧ (∀ c ∈ L, Good W c ∧ c.k ≠ 3) ∧ Below W.heap.size W wr) (fun _ j _ => len0 - (intOf j).toNat)
  case atStart => exact ⟨0, [], Nat.zero_le _, rfl, Nat.le_refl _, World.ownsRow_nil _ _ _ _, (fun c hc => absurd hc List.not_mem_nil), unhide HB0⟩
  case round =>
    obtain ⟨k, L, hk, rfl, hLk, hown, hgood, hb⟩ := hrel
    obtain ⟨at_, capt, rfl⟩ := ownsRow_form hown
    have HOWN := hide hown
    have HGOOD := hide hgood
    have HB := hide hb
    clear hown hgood hb
    have hk6 : k < 121 := by omega
    by_cases hlt : k < len0
    · have hlt' : (k : Int) < (len0 : Int) := by omega
      obtain ⟨_, h0 | ⟨b, off, rfl, hc⟩⟩ := unhide HI
      · omega
      have hcW := hc k hlt
      have hck := hcW.grow (unhide HB) (Nat.le_refl _)
      rcases hfk : f k with ⟨ck, cn, ccut, ca, cb, cv, cfs⟩
      rw [hfk] at hck hcW
      have c0 := hck.c0
      have c1 := hck.c1
      have c2 := hck.c2
      have c3 := hck.c3
      have c4 := hck.c4
      have c5 := hck.c5
      obtain ⟨ac, capc, ev, _⟩ := id hck.ints
      simp only at c0 c1 c2 c3 c4 c5 ev
      subst ev
      have HGC := hide hcW.good
      clear hc hck hcW hfk
      by_cases hk3 : ck = 3
      · subst hk3
        go_wp2
        go_roundw
        case rel => exact ⟨k + 1, L, by omega, by go_num, by omega, unhide HOWN, unhide HGOOD, unhide HB⟩
        case measure => simp [intOf]; omega
      · go_wp2_with (first
          | (at_builtin; refine app_gen (v := .slice at_ L.length capt) (news := [.int .i64 ck, .int .i64 cn, .int .i64 ccut, .int .u8 (ca : Int), .int .u8 (cb : Int), .slice ac cfs.length capc]) Try.underlying22 info36 rfl (by decide) rfl _ _ rfl rfl rfl (unhide HOWN) (unhide HB).size rfl (by intro u hu; simp at hu; rcases hu with rfl | rfl | rfl | rfl | rfl | rfl <;> rfl) (by omega) (by omega) ?_; intro a5 cap5 w5 hown5 hg5 hloc; have HX := hide (And.intro hown5 hg5); clear hown5 hg5 hloc)
          | go_in)
        go_roundw
        case rel =>
          obtain ⟨hown5, hg5⟩ := unhide HX
          have hb := unhide HB
          refine ⟨k + 1, L ++ [⟨ck, cn, ccut, ca, cb, .slice ac cfs.length capc, cfs⟩], by omega, by go_num, by rw [List.length_append]; simp; omega, ?_, fun c hc => ?_, hb.grown hg5 hb.size (fun g hg => ((unhide HOWN).lt g hg).1)⟩
          · rw [List.length_append, clCells_snoc]
            exact hown5
          · rcases List.mem_append.1 hc with hc | hc
            · exact unhide HGOOD c hc
            · simp at hc
              subst hc
              exact ⟨unhide HGC, hk3⟩
        case measure => simp [intOf]; omega
    · have hlt' : ¬ (k : Int) < (len0 : Int) := by omega
      go_wp2_with (first
        | (at_builtin; refine app_gen (v := .slice at_ L.length capt) (news := [.int .i64 1, .int .i64 0, .int .i64 0, .int .u8 0, .int .u8 0, .slice none 0 0]) Try.underlying22 info36 rfl (by decide) rfl _ _ rfl rfl rfl (unhide HOWN) (unhide HB).size rfl (by intro u hu; simp at hu; rcases hu with rfl | rfl | rfl | rfl <;> rfl) (by omega) (by omega) ?_; intro a5 cap5 w5 hown5 hg5 hloc; have HX := hide (And.intro hown5 hg5); clear hown5 hg5 hloc))
      obtain ⟨hown5, hg5⟩ := unhide HX
      have hb5 : Below W.heap.size W w5 := (unhide HB).grown hg5 (unhide HB).size (fun g hg => ((unhide HOWN).lt g hg).1)
      obtain ⟨G, hG, m1, m2, m3, m4⟩ := first_calls (l := L) hown5 (by omega) (unhide HGOOD) hb5
      have HB5 := hide hb5
      have HG := hide hG
      have HM := hide (And.intro m1 (And.intro m2 (And.intro m3 m4)))
      have hLl : L.length + 1 ≤ 121 := by omega
      clear hown5 hg5 hb5 hG m1 m2 m3 m4 HX HOWN HGOOD HB
      refine (made_any G a5 (L.length + 1) cap5 _ (unhide HG) (by omega)).mono ?_
      rintro e w6 ⟨d, fp, rfl, hs6⟩
      have HS6 := hide (Stp.rebase2 (unhide HB5) hs6)
      clear hs6
      generalize playM G (L.length + 1) = m at *
      go_wp2_with fail
      have hL0 : Lst W (w6.alloc (.cells #[.slice none 0 0, .slice none 0 0, .slice none 0 0, .slice none 0 0, .slice none 0 0, .slice none 0 0, .slice none 0 0, .slice none 0 0] 41)) d w6.heap.size m (L.length + 1) fp (fun _ => .slice none 0 0) (fun _ => []) := by
        refine ⟨(unhide HS6).grow ((Below.refl _ _).alloc (Nat.le_refl _) _), may_new W w6, fun hx => ?_, (unhide HS6).bel.size, (fun i _ g hg => by cases hg), (fun i _ t ht => absurd ht List.not_mem_nil)⟩
        have := (unhide HS6).disk.lt _ hx
        omega
      obtain ⟨q, hq⟩ : ∃ y, y = w6.heap.size := ⟨_, rfl⟩
      rw [← hq] at hL0 ⊢
      have HL0 := hide hL0
      clear hL0 hq HS6
      generalize w6.alloc (.cells #[.slice none 0 0, .slice none 0 0, .slice none 0 0, .slice none 0 0, .slice none 0 0, .slice none 0 0, .slice none 0 0, .slice none 0 0] 41) = w7 at *
      go_loopw [11] (fun j wr => ∃ (n : Nat) (mv : Nat → Value) (ml : Nat → List ByteArray), n ≤ 8 ∧ j = .int .i64 (n : Int) ∧ Lst W wr d q m (L.length + 1) fp mv ml ∧ (∀ i, i < n → m.old.getD i ByteArray.empty ∈ ml i) ∧ ∀ i, i < 8 → (ml i).length ≤ n) (fun j _ => 8 - (intOf j).toNat)
      case atStart => exact ⟨0, _, _, Nat.zero_le _, rfl, unhide HL0, (fun i hi => absurd hi (Nat.not_lt_zero _)), (fun i _ => Nat.le_refl _)⟩
      case round =>
        clear HL0
        obtain ⟨n, mv, ml, hn, rfl, hL, hin, hfew⟩ := hrel
        have HL := hide hL
        have HIN := hide hin
        have HFEW := hide hfew
        clear hL hin hfew
        by_cases hn8 : n < 8
        · have hn8' : (n : Int) < 8 := by omega
          have hrd : readM m (n : Int) = (m.old.getD n ByteArray.empty, 0) := by
            obtain ⟨m1, m2, m3, m4⟩ := unhide HM
            unfold readM
            rw [m1, if_neg (by decide), if_neg (by rw [m3]; omega), m4, Int.toNat_natCast]
            rfl
          have HRD := hide hrd
          clear hrd
          go_wp2_with fail
          obtain ⟨fb, lb, dv, hA, _⟩ := (unhide HL).s.disk
          have hsz : (m.old.getD n ByteArray.empty).size = 1024 := hA.ok.old n (by rw [(unhide HM).2.2.1]; exact hn8)
          have HSZ := hide hsz
          refine (read_any (n : Int) _ hA).mono ?_
          rintro e w8 ⟨rfl, hb8⟩
          rw [unhide HRD]
          have HL8 := hide ((unhide HL).grow hb8)
          clear hb8 hA hsz
          obtain ⟨so, hso⟩ : ∃ so, so = m.old.getD n ByteArray.empty := ⟨_, rfl⟩
          rw [← hso] at HSZ ⊢
          have HSO := hide hso
          clear hso
          have q0 := (unhide HL8).may.cell n hn8
          have q1 := (unhide HL8).may.free n
          have hfn := unhide HFEW n hn8
          obtain ⟨am, capm, em⟩ := ownsRow_form ((unhide HL8).may.own n hn8)
          have HOWN : Hid (w8.ownsRow W.heap.size 9 1 (.slice am (ml n).length capm) (ml n).length (strs (ml n))) := by
            have := (unhide HL8).may.own n hn8
            rw [em] at this
            exact this
          have HEM := hide em
          rw [em] at q0
          clear em
          go_wp2_with (first
            | (at_builtin; refine app_gen (v := .slice am (ml n).length capm) (news := [.string so]) Try.underlying40 info9 rfl (by decide) rfl _ _ rfl rfl rfl (unhide HOWN) (unhide HL8).s.bel.size rfl (by intro u hu; simp at hu; subst hu; rfl) (by omega) (by omega) ?_; intro a9 cap9 w9 hown9 hg9 hloc9; have hne9 : some q ≠ (Value.slice am (ml n).length capm).ownBlock := (fun e => (unhide HL8).may.nq n hn8 (by rw [unhide HEM]; exact e.symm)); have q9 := hg9.cell q0 hne9; have f9 : w9.frozen? ⟨q, n, none⟩ = false := (grown_frozen hg9 (unhide HL8).may.lt hne9 n).trans q1; have HX9 := hide (And.intro hown9 (And.intro hg9 hloc9)); clear hown9 hg9 hloc9 hne9)
            | go_in)
          go_roundw
          case rel =>
            obtain ⟨hown9, hg9, hloc9⟩ := unhide HX9
            have em := unhide HEM
            refine ⟨n + 1, _, _, by omega, by go_num, (unhide HL8).more hn8 (unhide HSZ) (s := so) ?_ (by rw [em]; exact hg9) (by rw [em]; exact hloc9), fun i hi => ?_, putL_few _ _ _ _ (unhide HFEW) hn8⟩
            · simp only [strs, List.map_append, List.map_cons, List.map_nil]
              exact hown9
            · by_cases e : i = n
              · subst e
                rw [← unhide HSO]
                unfold putL
                rw [if_pos rfl]
                exact List.mem_append_right _ (by simp)
              · exact putL_mem _ _ _ _ _ (unhide HIN i (by omega))
          case measure => simp [intOf]; omega
        · have hn8' : ¬ (n : Int) < 8 := by omega
          have hn9 : n = 8 := by omega
          subst hn9
          have HCOV : Hid (Cov m ml) := ⟨fun i hi => unhide HIN i hi, fun p hp => by rw [(unhide HM).2.2.2] at hp; exact absurd hp List.not_mem_nil⟩
          clear HIN
          go_wp2_with fail
          go_loopw [14] (fun j wr => ∃ (kk : Nat) (M : Dk) (fp : List Nat) (mv : Nat → Value) (ml : Nat → List ByteArray), kk ≤ len1 ∧ j = .int .i64 (kk : Int) ∧ Lst W wr d q M (L.length + 1 + kk) fp mv ml ∧ M.gone = false ∧ M.left = -1 ∧ M.old.length = 8 ∧ Cov M ml ∧ ∀ i, i < 8 → (ml i).length ≤ 8 + kk) (fun j _ => len1 - (intOf j).toNat)
          case atStart => exact ⟨0, m, fp, mv, ml, Nat.zero_le _, rfl, unhide HL, (unhide HM).1, (unhide HM).2.1, (unhide HM).2.2.1, unhide HCOV, unhide HFEW⟩
          case round =>
            clear HL HFEW HCOV HM
            obtain ⟨kk, M, fp, mv, ml, hkk, rfl, hL, hg1, hl1, ho1, hcov, hfew⟩ := hrel
            have HL := hide hL
            have HM := hide (And.intro hg1 (And.intro hl1 ho1))
            have HCOV := hide hcov
            have HFEW := hide hfew
            have hkk6 : kk < 121 := by omega
            clear hL hg1 hl1 ho1 hcov hfew
            by_cases hlt1 : kk < len1
            · have hlt1' : (kk : Int) < (len1 : Int) := by omega
              obtain ⟨_, h0 | ⟨b, off, rfl, hc⟩⟩ := unhide HJ
              · omega
              have hck := (hc kk hlt1).grow (unhide HL).s.bel (Nat.le_refl _)
              generalize g kk = cl at hck
              obtain ⟨ck, cn, ccut, ca, cb, cv, cfs⟩ := cl
              have c0 := hck.c0
              have c1 := hck.c1
              have c2 := hck.c2
              have c3 := hck.c3
              have c4 := hck.c4
              have c5 := hck.c5
              obtain ⟨ac, capc, ev, _⟩ := id hck.ints
              simp only at c0 c1 c2 c3 c4 c5 ev
              subst ev
              clear hc hck
              by_cases hk0 : ck = 0
              · subst hk0
                go_wp2_with fail
                have x0 : (wr.alloc (.cells #[.int .i64 0, .int .i64 cn, .int .i64 ccut, .int .u8 (ca : Int), .int .u8 (cb : Int), .slice ac cfs.length capc] 36)).cell? ⟨wr.heap.size, 0, none⟩ = some (.int .i64 0) := by simp
                have x1 : (wr.alloc (.cells #[.int .i64 0, .int .i64 cn, .int .i64 ccut, .int .u8 (ca : Int), .int .u8 (cb : Int), .slice ac cfs.length capc] 36)).cell? ⟨wr.heap.size, 1, none⟩ = some (.int .i64 cn) := by simp
                have x3 : (wr.alloc (.cells #[.int .i64 0, .int .i64 cn, .int .i64 ccut, .int .u8 (ca : Int), .int .u8 (cb : Int), .slice ac cfs.length capc] 36)).cell? ⟨wr.heap.size, 3, none⟩ = some (.int .u8 (ca : Int)) := by simp
                have x4 : (wr.alloc (.cells #[.int .i64 0, .int .i64 cn, .int .i64 ccut, .int .u8 (ca : Int), .int .u8 (cb : Int), .slice ac cfs.length capc] 36)).cell? ⟨wr.heap.size, 4, none⟩ = some (.int .u8 (cb : Int)) := by simp
                have HLA : Hid (Lst W (wr.alloc (.cells #[.int .i64 0, .int .i64 cn, .int .i64 ccut, .int .u8 (ca : Int), .int .u8 (cb : Int), .slice ac cfs.length capc] 36)) d q M (L.length + 1 + kk) fp mv ml) := (unhide HL).grow ((Below.refl _ _).alloc (Nat.le_refl _) _)
                have HPF : Hid (wr.heap.size ∉ fp) := fun hx => by have := (unhide HL).s.disk.lt _ hx; omega
                have HPQ : Hid (wr.heap.size ≠ q) := by have := (unhide HL).may.lt; show wr.heap.size ≠ q; omega
                have HPR : Hid (∀ i, i < 8 → (mv i).ownBlock ≠ some wr.heap.size) := fun i hi e => by have := ((unhide HL).may.own i hi).lt _ e; omega
                have HPZ : Hid (wr.heap.size < (wr.alloc (.cells #[.int .i64 0, .int .i64 cn, .int .i64 ccut, .int .u8 (ca : Int), .int .u8 (cb : Int), .slice ac cfs.length capc] 36)).heap.size) := by show wr.heap.size < (wr.alloc (.cells #[.int .i64 0, .int .i64 cn, .int .i64 ccut, .int .u8 (ca : Int), .int .u8 (cb : Int), .slice ac cfs.length capc] 36)).heap.size; simp
                obtain ⟨p, hp⟩ : ∃ y, y = wr.heap.size := ⟨_, rfl⟩
                rw [← hp] at x0 x1 x3 x4 HPF HPQ HPR HPZ ⊢
                clear hp
                generalize wr.alloc (.cells #[.int .i64 0, .int .i64 cn, .int .i64 ccut, .int .u8 (ca : Int), .int .u8 (cb : Int), .slice ac cfs.length capc] 36) = wa at *
                have HLD : Hid (Lst W wa.drew d q M (L.length + 1 + kk) fp mv ml) := (unhide HLA).grow (Below.refl _ _).drew
                have HPZ' : Hid (p < wa.drew.heap.size) := unhide HPZ
                have q0' : wa.drew.cell? ⟨p, 0, none⟩ = some (.int .i64 0) := x0
                have q1' : wa.drew.cell? ⟨p, 1, none⟩ = some (.int .i64 cn) := x1
                have q3' : wa.drew.cell? ⟨p, 3, none⟩ = some (.int .u8 (ca : Int)) := x3
                have q4' : wa.drew.cell? ⟨p, 4, none⟩ = some (.int .u8 (cb : Int)) := x4
                clear x0 x1 x3 x4 HLA HPZ c0 c1 c2 c3 c4 c5
                go_region_held3 (fun w' => w'.cell? ⟨p, 0, none⟩ = some (.int .i64 0) ∧ w'.cell? ⟨p, 1, none⟩ = some (.int .i64 cn) ∧ w'.cell? ⟨p, 3, none⟩ = some (.int .u8 (ca : Int)) ∧ w'.cell? ⟨p, 4, none⟩ = some (.int .u8 (cb : Int)))
                  (first | assumption | exact ⟨q0', q1', q3', q4'⟩ | exact ⟨y0, y1, y3, y4⟩ | exact ⟨z0, z1, z3, z4⟩)
                  (first
                    | (go_at_call 17; go_split_ands; refine (data_any ca cb _).mono ?_; rintro e w8 ⟨rfl, hb8⟩; have y0 := (hb8.cell (p := ⟨p, 0, none⟩) (unhide HPZ')).trans q0'; have y1 := (hb8.cell (p := ⟨p, 1, none⟩) (unhide HPZ')).trans q1'; have y3 := (hb8.cell (p := ⟨p, 3, none⟩) (unhide HPZ')).trans q3'; have y4 := (hb8.cell (p := ⟨p, 4, none⟩) (unhide HPZ')).trans q4'; have HL8 := hide ((unhide HLD).grow hb8); clear hb8)
                    | (go_at_call 16; go_split_ands; refine (write_any cn (dataS ca cb) fp _ (unhide HL8).s.disk (by omega)).mono ?_; rintro e w9 ⟨rfl, ht9⟩; have hmv := ht9.moves; have z0 := hmv.cell y0 (unhide HPF); have z1 := hmv.cell y1 (unhide HPF); have z3 := hmv.cell y3 (unhide HPF); have z4 := hmv.cell y4 (unhide HPF); obtain ⟨fp9, hL9⟩ := (unhide HL8).turn ht9; have HL9 := hide hL9; clear ht9 hL9 hmv))
                clear q0' q1' q3' q4' y0 y1 y3 y4
                by_cases hin : 0 ≤ cn ∧ cn < 8
                · obtain ⟨hin0, hin8⟩ := hin
                  have hw := write_in (unhide HM).1 (unhide HM).2.1 (unhide HM).2.2 cn (dataS ca cb) (dataS_size ca cb) hin0 hin8
                  obtain ⟨nn, rfl⟩ : ∃ nn : Nat, cn = (nn : Int) := ⟨cn.toNat, by omega⟩
                  rw [Int.toNat_natCast] at hw
                  rw [hw.1]
                  rw [hw.2] at HL9
                  have hnn : nn < 8 := by omega
                  clear hw
                  go_wp2_with fail
                  have HLE : Hid (Lst W w9.drew d q ⟨M.old, M.op ++ [(nn, dataS ca cb)], -1, false⟩ (L.length + 1 + kk + 1) fp9 mv ml) := (unhide HL9).grow (Below.refl _ _).drew
                  have s1 : w9.drew.cell? ⟨p, 1, none⟩ = some (.int .i64 (nn : Int)) := z1
                  have s3 : w9.drew.cell? ⟨p, 3, none⟩ = some (.int .u8 (ca : Int)) := z3
                  have s4 : w9.drew.cell? ⟨p, 4, none⟩ = some (.int .u8 (cb : Int)) := z4
                  have HZ9 : Hid (p < w9.drew.heap.size) := World.block_lt_of_cell? _ _ s1
                  have hfn := unhide HFEW nn hnn
                  obtain ⟨am, capm, em⟩ := ownsRow_form ((unhide HLE).may.own nn hnn)
                  have HEM := hide em
                  have HQ9 : Hid (q < w9.drew.heap.size) := (unhide HLE).may.lt
                  have m0 : w9.drew.cell? ⟨q, nn, none⟩ = some (.slice am (ml nn).length capm) := by rw [← em]; exact (unhide HLE).may.cell nn hnn
                  clear em z0 z1 z3 z4
                  refine wp_region_noPanic ?_
                  refine wp_region_held_drew (S := fun w' => w'.cell? ⟨p, 1, none⟩ = some (.int .i64 (nn : Int)) ∧ w'.cell? ⟨p, 3, none⟩ = some (.int .u8 (ca : Int)) ∧ w'.cell? ⟨p, 4, none⟩ = some (.int .u8 (cb : Int))) (by kernel_rfl) ⟨s1, s3, s4⟩ (fun hHeld => ?_)
                  refine takeY 0 (some 106) ?_ rfl rfl (by kernel_rfl) (by kernel_rfl) (by kernel_rfl) (fun _ _ _ h => h) (by rfl) ?_ hHeld ?_
                  rotate_left
                  · intro w hSw; go_simp <;> with_reducible rfl
                  simp only [Act.put, List.setIfInBounds_toArray, List.set_cons_zero, List.set_cons_succ]
                  refine takeY 1 (some 107) ?_ rfl rfl (by kernel_rfl) (by kernel_rfl) (by kernel_rfl) (fun _ _ _ h => h) (by rfl) ?_ hHeld ?_
                  rotate_left
                  · intro w hSw; go_simp <;> with_reducible rfl
                  simp only [Act.put, List.setIfInBounds_toArray, List.set_cons_zero, List.set_cons_succ]
                  refine takeY 2 (some 108) ?_ rfl rfl (by kernel_rfl) (by kernel_rfl) (by kernel_rfl) (fun _ _ _ h => h) (by rfl) ?_ hHeld ?_
                  rotate_left
                  · intro w hSw; go_simp <;> with_reducible rfl
                  simp only [Act.put, List.setIfInBounds_toArray, List.set_cons_zero, List.set_cons_succ]
                  refine takeY 3 (some 109) ?_ rfl rfl (by kernel_rfl) (by kernel_rfl) (by kernel_rfl) (fun _ _ _ h => h) (by rfl) ?_ hHeld ?_
                  rotate_left
                  · intro w hSw; go_simp <;> with_reducible rfl
                  simp only [Act.put, List.setIfInBounds_toArray, List.set_cons_zero, List.set_cons_succ]
                  refine takeY 4 (some 110) ?_ rfl rfl (by kernel_rfl) (by kernel_rfl) (by kernel_rfl) (fun _ _ _ h => h) (by rfl) ?_ hHeld ?_
                  rotate_left
                  · intro w hSw; go_simp <;> with_reducible rfl
                  simp only [Act.put, List.setIfInBounds_toArray, List.set_cons_zero, List.set_cons_succ]
                  refine takeY 6 (some 112) ?_ rfl rfl (by kernel_rfl) (by kernel_rfl) (by kernel_rfl) (fun _ _ _ h => h) (by rfl) ?_ hHeld ?_
                  rotate_left
                  · intro w hSw; go_simp <;> with_reducible rfl
                  simp only [Act.put, List.setIfInBounds_toArray, List.set_cons_zero, List.set_cons_succ]
                  refine takeY 7 (some 113) ?_ rfl rfl (by kernel_rfl) (by kernel_rfl) (by kernel_rfl) (fun _ _ _ h => h) (by rfl) ?_ hHeld ?_
                  rotate_left
                  · intro w hSw; go_simp <;> with_reducible rfl
                  simp only [Act.put, List.setIfInBounds_toArray, List.set_cons_zero, List.set_cons_succ]
                  refine takeY 8 (some 114) ?_ rfl rfl (by kernel_rfl) (by kernel_rfl) (by kernel_rfl) (fun _ _ _ h => h) (by rfl) ?_ hHeld ?_
                  rotate_left
                  · intro w hSw; go_simp <;> with_reducible rfl
                  simp only [Act.put, List.setIfInBounds_toArray, List.set_cons_zero, List.set_cons_succ]
                  refine takeY 9 (some 115) ?_ rfl rfl (by kernel_rfl) (by kernel_rfl) (by kernel_rfl) (fun _ _ _ h => h) (by rfl) ?_ hHeld ?_
                  rotate_left
                  · intro w hSw; go_simp <;> with_reducible rfl
                  simp only [Act.put, List.setIfInBounds_toArray, List.set_cons_zero, List.set_cons_succ]
                  refine wpAnyH_ready (rs := [5, 10]) (by kernel_rfl) (by simp) ?_
                  refine AllReadyH.cons rfl (fun K hK => ?_) (AllReadyH.cons rfl (fun K hK => ?_) AllReadyH.nil)
                  · go_simp
                    refine hK.out _ _ hHeld (fun hHeld => ?_)
                    clear hK K
                    try simp only [Act.put, List.setIfInBounds_toArray, List.set_cons_zero, List.set_cons_succ]
                    refine wpAnyH_ready (rs := [10]) (by kernel_rfl) (by simp) ?_
                    refine AllReadyH.cons rfl (fun K hK => ?_) AllReadyH.nil
                    go_simp
                    refine (data_any ca cb _).mono ?_
                    rintro e wB ⟨rfl, hbB⟩
                    have t1 := (hbB.cell (p := ⟨p, 1, none⟩) (unhide HZ9)).trans s1
                    have t3 := (hbB.cell (p := ⟨p, 3, none⟩) (unhide HZ9)).trans s3
                    have t4 := (hbB.cell (p := ⟨p, 4, none⟩) (unhide HZ9)).trans s4
                    have m1 := (hbB.cell (p := ⟨q, nn, none⟩) (unhide HQ9)).trans m0
                    have HLB := hide ((unhide HLE).grow hbB)
                    have hplB : p < wB.heap.size := World.block_lt_of_cell? _ _ t1
                    have TA : ∀ o, (wB.alloc o).cell? ⟨p, 1, none⟩ = some (.int .i64 (nn : Int)) ∧ (wB.alloc o).cell? ⟨p, 3, none⟩ = some (.int .u8 (ca : Int)) ∧ (wB.alloc o).cell? ⟨p, 4, none⟩ = some (.int .u8 (cb : Int)) := fun o => ⟨(Below.cell ((Below.refl wB.heap.size wB).alloc (Nat.le_refl _) o) hplB).trans t1, (Below.cell ((Below.refl wB.heap.size wB).alloc (Nat.le_refl _) o) hplB).trans t3, (Below.cell ((Below.refl wB.heap.size wB).alloc (Nat.le_refl _) o) hplB).trans t4⟩
                    have TM : ∀ o, (wB.alloc o).cell? ⟨q, nn, none⟩ = some (.slice am (ml nn).length capm) := fun o => (Below.cell ((Below.refl wB.heap.size wB).alloc (Nat.le_refl _) o) (World.block_lt_of_cell? _ _ m1)).trans m1
                    clear hbB hplB
                    refine hK.out _ _ ⟨t1, t3, t4⟩ (fun hHeld => ?_)
                    clear hK K
                    try simp only [Act.put, List.setIfInBounds_toArray, List.set_cons_zero, List.set_cons_succ]
                    refine wpAnyH_ready (rs := [11]) (by kernel_rfl) (by simp) ?_
                    refine AllReadyH.cons rfl (fun K hK => ?_) AllReadyH.nil
                    go_simp
                    refine hK.out _ _ (TA _) (fun hHeld => ?_)
                    clear hK K
                    try simp only [Act.put, List.setIfInBounds_toArray, List.set_cons_zero, List.set_cons_succ]
                    refine wpAnyH_ready (rs := [12]) (by kernel_rfl) (by simp) ?_
                    refine AllReadyH.cons rfl (fun K hK => ?_) AllReadyH.nil
                    refine step_gen (wr := wB) (v := .slice am (ml nn).length capm) (news := [.string (dataS ca cb)]) rfl Try.underlying40 info9 rfl (by decide) _ _ rfl rfl rfl (by have := (unhide HLB).may.own nn hnn; rw [unhide HEM] at this; exact this) (unhide HLB).s.bel.size rfl (by intro u hu; simp at hu; subst hu; rfl) (by omega) (by omega) ?_
                    intro aC capC wC hownC hgC hlocC
                    have hneP : some p ≠ (Value.slice am (ml nn).length capm).ownBlock := fun e => unhide HPR nn hnn (by rw [unhide HEM]; exact e.symm)
                    have hneQ : some q ≠ (Value.slice am (ml nn).length capm).ownBlock := fun e => (unhide HLB).may.nq nn hnn (by rw [unhide HEM]; exact e.symm)
                    have r1 := hgC.cell t1 hneP
                    have r3 := hgC.cell t3 hneP
                    have r4 := hgC.cell t4 hneP
                    have mC := hgC.cell m1 hneQ
                    have fC : wC.frozen? ⟨q, nn, none⟩ = false := (grown_frozen hgC (unhide HLB).may.lt hneQ nn).trans ((unhide HLB).may.free nn)
                    have RS : ∀ u, (wC.setCell ⟨q, nn, none⟩ u).cell? ⟨p, 1, none⟩ = some (.int .i64 (nn : Int)) ∧ (wC.setCell ⟨q, nn, none⟩ u).cell? ⟨p, 3, none⟩ = some (.int .u8 (ca : Int)) ∧ (wC.setCell ⟨q, nn, none⟩ u).cell? ⟨p, 4, none⟩ = some (.int .u8 (cb : Int)) := fun u => ⟨(World.cell?_of_block (Below.heap_setCell wC ⟨q, nn, none⟩ u p (unhide HPQ))).trans r1, (World.cell?_of_block (Below.heap_setCell wC ⟨q, nn, none⟩ u p (unhide HPQ))).trans r3, (World.cell?_of_block (Below.heap_setCell wC ⟨q, nn, none⟩ u p (unhide HPQ))).trans r4⟩
                    have HXC := hide (And.intro hownC (And.intro hgC hlocC))
                    clear hownC hgC hlocC hneP hneQ
                    refine hK.out _ _ ⟨r1, r3, r4⟩ (fun hHeld => ?_)
                    clear hK K
                    try simp only [Act.put, List.setIfInBounds_toArray]
                    refine takeY 13 (some 119) ?_ rfl rfl (by kernel_rfl) (by kernel_rfl) (by kernel_rfl) (fun _ _ _ h => h) (by rfl) ?_ hHeld ?_
                    rotate_left
                    · intro w hSw; go_simp <;> with_reducible rfl
                    simp only [Act.put]
                    refine wpAnyH_ready (rs := [14]) (by kernel_rfl) (by simp) ?_
                    refine AllReadyH.cons rfl (fun K hK => ?_) AllReadyH.nil
                    go_simp
                    refine hK.out _ _ (RS _) (fun hHeld => ?_)
                    clear hK K
                    try simp only [Act.put]
                    refine wpAnyH_done (by kernel_rfl) ?_ _
                    refine NoPanic.normal ?_
                    go_wp2_with fail
                    go_roundw
                    case rel =>
                      obtain ⟨hownC, hgC, hlocC⟩ := unhide HXC
                      have em := unhide HEM
                      refine ⟨kk + 1, ⟨M.old, M.op ++ [(nn, dataS ca cb)], -1, false⟩, fp9, _, _, by omega, by go_num, (unhide HLB).more hnn (dataS_size ca cb) (s := dataS ca cb) ?_ (by rw [em]; exact hgC) (by rw [em]; exact hlocC), rfl, rfl, (unhide HM).2.2, cov_more (unhide HCOV) nn (dataS ca cb) _ _, fun i hi => by have := putL_few ml nn (dataS ca cb) _ (unhide HFEW) hnn i hi; omega⟩
                      simp only [strs, List.map_append, List.map_cons, List.map_nil]
                      exact hownC
                    case measure => simp [intOf]; omega
                  · go_simp
                    refine (data_any ca cb _).mono ?_
                    rintro e wB ⟨rfl, hbB⟩
                    have t1 := (hbB.cell (p := ⟨p, 1, none⟩) (unhide HZ9)).trans s1
                    have t3 := (hbB.cell (p := ⟨p, 3, none⟩) (unhide HZ9)).trans s3
                    have t4 := (hbB.cell (p := ⟨p, 4, none⟩) (unhide HZ9)).trans s4
                    have m1 := (hbB.cell (p := ⟨q, nn, none⟩) (unhide HQ9)).trans m0
                    have HLB := hide ((unhide HLE).grow hbB)
                    have hplB : p < wB.heap.size := World.block_lt_of_cell? _ _ t1
                    have TA : ∀ o, (wB.alloc o).cell? ⟨p, 1, none⟩ = some (.int .i64 (nn : Int)) ∧ (wB.alloc o).cell? ⟨p, 3, none⟩ = some (.int .u8 (ca : Int)) ∧ (wB.alloc o).cell? ⟨p, 4, none⟩ = some (.int .u8 (cb : Int)) := fun o => ⟨(Below.cell ((Below.refl wB.heap.size wB).alloc (Nat.le_refl _) o) hplB).trans t1, (Below.cell ((Below.refl wB.heap.size wB).alloc (Nat.le_refl _) o) hplB).trans t3, (Below.cell ((Below.refl wB.heap.size wB).alloc (Nat.le_refl _) o) hplB).trans t4⟩
                    have TM : ∀ o, (wB.alloc o).cell? ⟨q, nn, none⟩ = some (.slice am (ml nn).length capm) := fun o => (Below.cell ((Below.refl wB.heap.size wB).alloc (Nat.le_refl _) o) (World.block_lt_of_cell? _ _ m1)).trans m1
                    clear hbB hplB
                    refine hK.out _ _ ⟨t1, t3, t4⟩ (fun hHeld => ?_)
                    clear hK K
                    try simp only [Act.put, List.setIfInBounds_toArray, List.set_cons_zero, List.set_cons_succ]
                    refine wpAnyH_ready (rs := [5, 11]) (by kernel_rfl) (by simp) ?_
                    refine AllReadyH.cons rfl (fun K hK => ?_) (AllReadyH.cons rfl (fun K hK => ?_) AllReadyH.nil)
                    · go_simp
                      refine hK.out _ _ hHeld (fun hHeld => ?_)
                      clear hK K
                      try simp only [Act.put, List.setIfInBounds_toArray, List.set_cons_zero, List.set_cons_succ]
                      refine wpAnyH_ready (rs := [11]) (by kernel_rfl) (by simp) ?_
                      refine AllReadyH.cons rfl (fun K hK => ?_) AllReadyH.nil
                      go_simp
                      refine hK.out _ _ (TA _) (fun hHeld => ?_)
                      clear hK K
                      try simp only [Act.put, List.setIfInBounds_toArray, List.set_cons_zero, List.set_cons_succ]
                      refine wpAnyH_ready (rs := [12]) (by kernel_rfl) (by simp) ?_
                      refine AllReadyH.cons rfl (fun K hK => ?_) AllReadyH.nil
                      refine step_gen (wr := wB) (v := .slice am (ml nn).length capm) (news := [.string (dataS ca cb)]) rfl Try.underlying40 info9 rfl (by decide) _ _ rfl rfl rfl (by have := (unhide HLB).may.own nn hnn; rw [unhide HEM] at this; exact this) (unhide HLB).s.bel.size rfl (by intro u hu; simp at hu; subst hu; rfl) (by omega) (by omega) ?_
                      intro aC capC wC hownC hgC hlocC
                      have hneP : some p ≠ (Value.slice am (ml nn).length capm).ownBlock := fun e => unhide HPR nn hnn (by rw [unhide HEM]; exact e.symm)
                      have hneQ : some q ≠ (Value.slice am (ml nn).length capm).ownBlock := fun e => (unhide HLB).may.nq nn hnn (by rw [unhide HEM]; exact e.symm)
                      have r1 := hgC.cell t1 hneP
                      have r3 := hgC.cell t3 hneP
                      have r4 := hgC.cell t4 hneP
                      have mC := hgC.cell m1 hneQ
                      have fC : wC.frozen? ⟨q, nn, none⟩ = false := (grown_frozen hgC (unhide HLB).may.lt hneQ nn).trans ((unhide HLB).may.free nn)
                      have RS : ∀ u, (wC.setCell ⟨q, nn, none⟩ u).cell? ⟨p, 1, none⟩ = some (.int .i64 (nn : Int)) ∧ (wC.setCell ⟨q, nn, none⟩ u).cell? ⟨p, 3, none⟩ = some (.int .u8 (ca : Int)) ∧ (wC.setCell ⟨q, nn, none⟩ u).cell? ⟨p, 4, none⟩ = some (.int .u8 (cb : Int)) := fun u => ⟨(World.cell?_of_block (Below.heap_setCell wC ⟨q, nn, none⟩ u p (unhide HPQ))).trans r1, (World.cell?_of_block (Below.heap_setCell wC ⟨q, nn, none⟩ u p (unhide HPQ))).trans r3, (World.cell?_of_block (Below.heap_setCell wC ⟨q, nn, none⟩ u p (unhide HPQ))).trans r4⟩
                      have HXC := hide (And.intro hownC (And.intro hgC hlocC))
                      clear hownC hgC hlocC hneP hneQ
                      refine hK.out _ _ ⟨r1, r3, r4⟩ (fun hHeld => ?_)
                      clear hK K
                      try simp only [Act.put, List.setIfInBounds_toArray]
                      refine takeY 13 (some 119) ?_ rfl rfl (by kernel_rfl) (by kernel_rfl) (by kernel_rfl) (fun _ _ _ h => h) (by rfl) ?_ hHeld ?_
                      rotate_left
                      · intro w hSw; go_simp <;> with_reducible rfl
                      simp only [Act.put]
                      refine wpAnyH_ready (rs := [14]) (by kernel_rfl) (by simp) ?_
                      refine AllReadyH.cons rfl (fun K hK => ?_) AllReadyH.nil
                      go_simp
                      refine hK.out _ _ (RS _) (fun hHeld => ?_)
                      clear hK K
                      try simp only [Act.put]
                      refine wpAnyH_done (by kernel_rfl) ?_ _
                      refine NoPanic.normal ?_
                      go_wp2_with fail
                      go_roundw
                      case rel =>
                        obtain ⟨hownC, hgC, hlocC⟩ := unhide HXC
                        have em := unhide HEM
                        refine ⟨kk + 1, ⟨M.old, M.op ++ [(nn, dataS ca cb)], -1, false⟩, fp9, _, _, by omega, by go_num, (unhide HLB).more hnn (dataS_size ca cb) (s := dataS ca cb) ?_ (by rw [em]; exact hgC) (by rw [em]; exact hlocC), rfl, rfl, (unhide HM).2.2, cov_more (unhide HCOV) nn (dataS ca cb) _ _, fun i hi => by have := putL_few ml nn (dataS ca cb) _ (unhide HFEW) hnn i hi; omega⟩
                        simp only [strs, List.map_append, List.map_cons, List.map_nil]
                        exact hownC
                      case measure => simp [intOf]; omega
                    · go_simp
                      refine hK.out _ _ (TA _) (fun hHeld => ?_)
                      clear hK K
                      try simp only [Act.put, List.setIfInBounds_toArray, List.set_cons_zero, List.set_cons_succ]
                      refine wpAnyH_ready (rs := [5]) (by kernel_rfl) (by simp) ?_
                      refine AllReadyH.cons rfl (fun K hK => ?_) AllReadyH.nil
                      go_simp
                      refine hK.out _ _ hHeld (fun hHeld => ?_)
                      clear hK K
                      try simp only [Act.put, List.setIfInBounds_toArray, List.set_cons_zero, List.set_cons_succ]
                      refine wpAnyH_ready (rs := [12]) (by kernel_rfl) (by simp) ?_
                      refine AllReadyH.cons rfl (fun K hK => ?_) AllReadyH.nil
                      refine step_gen (wr := wB) (v := .slice am (ml nn).length capm) (news := [.string (dataS ca cb)]) rfl Try.underlying40 info9 rfl (by decide) _ _ rfl rfl rfl (by have := (unhide HLB).may.own nn hnn; rw [unhide HEM] at this; exact this) (unhide HLB).s.bel.size rfl (by intro u hu; simp at hu; subst hu; rfl) (by omega) (by omega) ?_
                      intro aC capC wC hownC hgC hlocC
                      have hneP : some p ≠ (Value.slice am (ml nn).length capm).ownBlock := fun e => unhide HPR nn hnn (by rw [unhide HEM]; exact e.symm)
                      have hneQ : some q ≠ (Value.slice am (ml nn).length capm).ownBlock := fun e => (unhide HLB).may.nq nn hnn (by rw [unhide HEM]; exact e.symm)
                      have r1 := hgC.cell t1 hneP
                      have r3 := hgC.cell t3 hneP
                      have r4 := hgC.cell t4 hneP
                      have mC := hgC.cell m1 hneQ
                      have fC : wC.frozen? ⟨q, nn, none⟩ = false := (grown_frozen hgC (unhide HLB).may.lt hneQ nn).trans ((unhide HLB).may.free nn)
                      have RS : ∀ u, (wC.setCell ⟨q, nn, none⟩ u).cell? ⟨p, 1, none⟩ = some (.int .i64 (nn : Int)) ∧ (wC.setCell ⟨q, nn, none⟩ u).cell? ⟨p, 3, none⟩ = some (.int .u8 (ca : Int)) ∧ (wC.setCell ⟨q, nn, none⟩ u).cell? ⟨p, 4, none⟩ = some (.int .u8 (cb : Int)) := fun u => ⟨(World.cell?_of_block (Below.heap_setCell wC ⟨q, nn, none⟩ u p (unhide HPQ))).trans r1, (World.cell?_of_block (Below.heap_setCell wC ⟨q, nn, none⟩ u p (unhide HPQ))).trans r3, (World.cell?_of_block (Below.heap_setCell wC ⟨q, nn, none⟩ u p (unhide HPQ))).trans r4⟩
                      have HXC := hide (And.intro hownC (And.intro hgC hlocC))
                      clear hownC hgC hlocC hneP hneQ
                      refine hK.out _ _ ⟨r1, r3, r4⟩ (fun hHeld => ?_)
                      clear hK K
                      try simp only [Act.put, List.setIfInBounds_toArray]
                      refine takeY 13 (some 119) ?_ rfl rfl (by kernel_rfl) (by kernel_rfl) (by kernel_rfl) (fun _ _ _ h => h) (by rfl) ?_ hHeld ?_
                      rotate_left
                      · intro w hSw; go_simp <;> with_reducible rfl
                      simp only [Act.put]
                      refine wpAnyH_ready (rs := [14]) (by kernel_rfl) (by simp) ?_
                      refine AllReadyH.cons rfl (fun K hK => ?_) AllReadyH.nil
                      go_simp
                      refine hK.out _ _ (RS _) (fun hHeld => ?_)
                      clear hK K
                      try simp only [Act.put]
                      refine wpAnyH_done (by kernel_rfl) ?_ _
                      refine NoPanic.normal ?_
                      go_wp2_with fail
                      go_roundw
                      case rel =>
                        obtain ⟨hownC, hgC, hlocC⟩ := unhide HXC
                        have em := unhide HEM
                        refine ⟨kk + 1, ⟨M.old, M.op ++ [(nn, dataS ca cb)], -1, false⟩, fp9, _, _, by omega, by go_num, (unhide HLB).more hnn (dataS_size ca cb) (s := dataS ca cb) ?_ (by rw [em]; exact hgC) (by rw [em]; exact hlocC), rfl, rfl, (unhide HM).2.2, cov_more (unhide HCOV) nn (dataS ca cb) _ _, fun i hi => by have := putL_few ml nn (dataS ca cb) _ (unhide HFEW) hnn i hi; omega⟩
                        simp only [strs, List.map_append, List.map_cons, List.map_nil]
                        exact hownC
                      case measure => simp [intOf]; omega
                · have hw := write_off (unhide HM).1 (unhide HM).2.1 (unhide HM).2.2 cn (dataS ca cb) (by omega)
                  rw [hw.1]
                  rw [hw.2] at HL9
                  clear hw
                  go_wp2
                  go_roundw
                  case rel => exact ⟨kk + 1, M, fp9, mv, ml, by omega, by go_num, unhide HL9, (unhide HM).1, (unhide HM).2.1, (unhide HM).2.2, unhide HCOV, fun i hi => by have := unhide HFEW i hi; omega⟩
                  case measure => simp [intOf]; omega
              · have hd1 : (ck == 0) = false := by simpa using hk0
                have hd2 : decide (ck = 0) = false := by simpa using hk0
                go_wp2_with fail
                have x0 : (wr.alloc (.cells #[.int .i64 ck, .int .i64 cn, .int .i64 ccut, .int .u8 (ca : Int), .int .u8 (cb : Int), .slice ac cfs.length capc] 36)).cell? ⟨wr.heap.size, 0, none⟩ = some (.int .i64 ck) := by simp
                have x1 : (wr.alloc (.cells #[.int .i64 ck, .int .i64 cn, .int .i64 ccut, .int .u8 (ca : Int), .int .u8 (cb : Int), .slice ac cfs.length capc] 36)).cell? ⟨wr.heap.size, 1, none⟩ = some (.int .i64 cn) := by simp
                have x3 : (wr.alloc (.cells #[.int .i64 ck, .int .i64 cn, .int .i64 ccut, .int .u8 (ca : Int), .int .u8 (cb : Int), .slice ac cfs.length capc] 36)).cell? ⟨wr.heap.size, 3, none⟩ = some (.int .u8 (ca : Int)) := by simp
                have x4 : (wr.alloc (.cells #[.int .i64 ck, .int .i64 cn, .int .i64 ccut, .int .u8 (ca : Int), .int .u8 (cb : Int), .slice ac cfs.length capc] 36)).cell? ⟨wr.heap.size, 4, none⟩ = some (.int .u8 (cb : Int)) := by simp
                have HLA : Hid (Lst W (wr.alloc (.cells #[.int .i64 ck, .int .i64 cn, .int .i64 ccut, .int .u8 (ca : Int), .int .u8 (cb : Int), .slice ac cfs.length capc] 36)) d q M (L.length + 1 + kk) fp mv ml) := (unhide HL).grow ((Below.refl _ _).alloc (Nat.le_refl _) _)
                have HPF : Hid (wr.heap.size ∉ fp) := fun hx => by have := (unhide HL).s.disk.lt _ hx; omega
                have HPQ : Hid (wr.heap.size ≠ q) := by have := (unhide HL).may.lt; show wr.heap.size ≠ q; omega
                have HPR : Hid (∀ i, i < 8 → (mv i).ownBlock ≠ some wr.heap.size) := fun i hi e => by have := ((unhide HL).may.own i hi).lt _ e; omega
                have HPZ : Hid (wr.heap.size < (wr.alloc (.cells #[.int .i64 ck, .int .i64 cn, .int .i64 ccut, .int .u8 (ca : Int), .int .u8 (cb : Int), .slice ac cfs.length capc] 36)).heap.size) := by show wr.heap.size < (wr.alloc (.cells #[.int .i64 ck, .int .i64 cn, .int .i64 ccut, .int .u8 (ca : Int), .int .u8 (cb : Int), .slice ac cfs.length capc] 36)).heap.size; simp
                obtain ⟨p, hp⟩ : ∃ y, y = wr.heap.size := ⟨_, rfl⟩
                rw [← hp] at x0 x1 x3 x4 HPF HPQ HPR HPZ ⊢
                clear hp
                generalize wr.alloc (.cells #[.int .i64 ck, .int .i64 cn, .int .i64 ccut, .int .u8 (ca : Int), .int .u8 (cb : Int), .slice ac cfs.length capc] 36) = wa at *
                clear x1 x3 x4
                go_quiet (fail)
                go_wp2
                go_roundw
                case rel => exact ⟨kk + 1, M, fp, mv, ml, by omega, by go_num, ((unhide HLA).grow (w' := wa.drewN nq) ⟨rfl, rfl, rfl, Nat.le_refl _, fun _ _ => rfl⟩).mono (by omega), (unhide HM).1, (unhide HM).2.1, (unhide HM).2.2, unhide HCOV, fun i hi => by have := unhide HFEW i hi; omega⟩
                case measure => simp [intOf]; omega
            · have hlt1' : ¬ (kk : Int) < (len1 : Int) := by omega
              go_wp2_with fail
              refine (crash_any fs _ _ _ (unhide HL).s.disk ((unhide HV).grow (unhide HL).s.bel (Nat.le_refl _)) (by omega)).mono ?_
              rintro e wX ⟨dx, fpx, rfl, hIx, hbx, _⟩
              have HLX := hide ((unhide HL).grow hbx)
              have HIX := hide hIx
              have hcrash : ∀ n, n < 8 → ∀ j, j < 1024 → ∃ t ∈ ml n, At t j = At ((crashM M fs).old.getD n ByteArray.empty) j := fun n hn j hj => crash_cov (unhide HL).s.disk.ok (unhide HM).2.2 (unhide HCOV) fs n hn j hj
              have hxlen : (crashM M fs).old.length = 8 := by show (crashL M.old (M.op.zip fs)).length = 8; rw [crashL_length]; exact (unhide HM).2.2
              have hxop : (crashM M fs).op = [] := rfl
              have hxg : (crashM M fs).gone = false := rfl
              have hxsz : ∀ n, n < 8 → ((crashM M fs).old.getD n ByteArray.empty).size = 1024 := fun n hn => hIx.ok.old n (by omega)
              have HCR := hide hcrash
              have HXF := hide (And.intro hxlen (And.intro hxop (And.intro hxg hxsz)))
              clear hIx hbx hcrash hxlen hxop hxg hxsz HL HCOV HM
              generalize crashM M fs = X at *
              go_wp2_with fail
              go_loopw [17] (fun j wr => ∃ n : Nat, n ≤ 8 ∧ j = .int .i64 (n : Int) ∧ IsDisk wr dx X (L.length + 1 + kk) fpx ∧ May W wr q mv ml ∧ Below W.heap.size W wr) (fun j _ => 8 - (intOf j).toNat)
              case atStart => exact ⟨0, Nat.zero_le _, rfl, unhide HIX, (unhide HLX).may, (unhide HLX).s.bel⟩
              case round =>
                clear HIX
                obtain ⟨n, hn, rfl, hIx, hMay, hBel⟩ := hrel
                have HIX := hide hIx
                have HMAY := hide hMay
                have HBEL := hide hBel
                clear hIx hMay hBel
                by_cases hn8 : n < 8
                · have hn8' : (n : Int) < 8 := by omega
                  have hrd : readM X (n : Int) = (X.old.getD n ByteArray.empty, 0) := by
                    obtain ⟨m1, m2, m3, m4⟩ := unhide HXF
                    unfold readM
                    rw [m3, if_neg (by decide), if_neg (by rw [m1]; omega), m2, Int.toNat_natCast]
                    rfl
                  have HRD := hide hrd
                  clear hrd
                  go_wp2_with fail
                  obtain ⟨fb, lb, dv, hA, _⟩ := unhide HIX
                  refine (read_any (n : Int) _ hA).mono ?_
                  rintro e wY ⟨rfl, hbY⟩
                  rw [unhide HRD]
                  have hsz := (unhide HXF).2.2.2 n hn8
                  have HCRN := hide (unhide HCR n hn8)
                  have HIY := hide ((unhide HIX).grow hbY)
                  have HMY := hide ((unhide HMAY).grow hbY)
                  have HBY : Hid (Below W.heap.size W wY) := (unhide HBEL).trans (hbY.mono (unhide HBEL).size)
                  clear hbY hA
                  generalize X.old.getD n ByteArray.empty = sx at *
                  have hsz' : (sx.size : Int) = 1024 := by omega
                  go_wp2_with fail
                  go_loopw [20] (fun j wr => ∃ b : Nat, b ≤ 1024 ∧ j = .int .i64 (b : Int) ∧ IsDisk wr dx X (L.length + 1 + kk) fpx ∧ May W wr q mv ml ∧ Below W.heap.size W wr) (fun j _ => 1024 - (intOf j).toNat)
                  case atStart => exact ⟨0, Nat.zero_le _, rfl, unhide HIY, unhide HMY, unhide HBY⟩
                  case round =>
                    clear HIY HMY HBY
                    obtain ⟨b, hb, rfl, hIy, hMy, hBy⟩ := hrel
                    have HIY := hide hIy
                    have HMY := hide hMy
                    have HBY := hide hBy
                    clear hIy hMy hBy
                    by_cases hblt : b < 1024
                    · have hblt' : (b : Int) < 1024 := by omega
                      have hex := unhide HCRN b hblt
                      have HEX := hide hex
                      clear hex
                      go_wp2_with fail
                      go_loopw [21, 22] (fun t j wr => ∃ (i : Nat) (sm : Bool), i ≤ (ml n).length ∧ j = .int .i64 (i : Int) ∧ t = .bool sm ∧ (sm = false → ∀ z, z < i → At ((ml n).getD z ByteArray.empty) b ≠ At sx b) ∧ IsDisk wr dx X (L.length + 1 + kk) fpx ∧ May W wr q mv ml ∧ Below W.heap.size W wr) (fun _ j _ => (ml n).length - (intOf j).toNat)
                      case atStart => exact ⟨0, false, Nat.zero_le _, rfl, rfl, (fun _ z hz => absurd hz (Nat.not_lt_zero _)), unhide HIY, unhide HMY, unhide HBY⟩
                      case round =>
                        clear HIY HMY HBY
                        obtain ⟨i, sm, hi, rfl, rfl, hno, hIz, hMz, hBz⟩ := hrel
                        have HNO := hide hno
                        have HIZ := hide hIz
                        have HMZ := hide hMz
                        have HBZ := hide hBz
                        have hfn := unhide HFEW n hn8
                        clear hno hIz hMz hBz
                        have q0 := (unhide HMZ).cell n hn8
                        have hown := (unhide HMZ).own n hn8
                        obtain ⟨am, capm, em⟩ := ownsRow_form hown
                        rw [em] at hown q0
                        by_cases hil : i < (ml n).length
                        · have hil' : (i : Int) < ((ml n).length : Int) := by omega
                          obtain ⟨gm, capm2, em2, _, _⟩ := row_some (ownsRow_base hown (Nat.zero_le _)) (by omega)
                          cases em2
                          have q1 := row_cell (ownsRow_base hown (Nat.zero_le _)) i _ (strs_at (ml n) i hil)
                          have htsz : ((ml n).getD i ByteArray.empty).size = 1024 := (unhide HLX).sz n hn8 _ (by rw [List.getD_eq_getElem?_getD, List.getElem?_eq_getElem hil]; exact List.getElem_mem hil)
                          have htsz' : (b : Int) < (((ml n).getD i ByteArray.empty).size : Int) := by omega
                          have hsx' : (b : Int) < (sx.size : Int) := by omega
                          have hbt : b < ((ml n).getD i ByteArray.empty).size := by omega
                          have hbs : b < sx.size := by omega
                          clear hown em
                          cases sm with
                          | true =>
                            go_wp2_with fail
                            refine ⟨⟨b + 1, by omega, by go_num, unhide HIZ, unhide HMZ, unhide HBZ⟩, ?_⟩
                            simp [intOf]
                            omega
                          | false =>
                            generalize hT : (ml n).getD i ByteArray.empty = T at *
                            have HT := hide hT
                            clear hT
                            go_wp2_with fail
                            go_quiet (fail)
                            go_wp2_with fail
                            go_roundw
                            case rel =>
                              have hbd : Below wr.heap.size wr (wr.drewN nq) := ⟨rfl, rfl, rfl, Nat.le_refl _, fun _ _ => rfl⟩
                              refine ⟨i + 1, _, by omega, by go_num, rfl, fun hsm z hz => ?_, (unhide HIZ).grow hbd, (unhide HMZ).grow hbd, (unhide HBZ).trans (hbd.mono (unhide HBZ).size)⟩
                              by_cases ez : z = i
                              · rw [ez, unhide HT]
                                exact At_ne hbt hbs hsm
                              · exact unhide HNO trivial z (by omega)
                            case measure => simp [intOf]; omega
                        · have hil' : ¬ (i : Int) < ((ml n).length : Int) := by omega
                          clear hown em
                          cases sm with
                          | true =>
                            go_wp2_with fail
                            refine ⟨⟨b + 1, by omega, by go_num, unhide HIZ, unhide HMZ, unhide HBZ⟩, ?_⟩
                            simp [intOf]
                            omega
                          | false =>
                            exfalso
                            obtain ⟨t, ht, et⟩ := unhide HEX
                            obtain ⟨z, hz, rfl⟩ := List.getElem_of_mem ht
                            have := unhide HNO rfl z (by omega)
                            rw [List.getD_eq_getElem?_getD, List.getElem?_eq_getElem hz] at this
                            exact this et
                    · have hblt' : ¬ (b : Int) < 1024 := by omega
                      go_wp2
                      go_roundw
                      case rel => exact ⟨n + 1, by omega, by go_num, unhide HIY, unhide HMY, unhide HBY⟩
                      case measure => simp [intOf]; omega
                · have hn8' : ¬ (n : Int) < 8 := by omega
                  go_wp2_with fail
                  obtain ⟨fb, lb, dv, hA, _⟩ := unhide HIX
                  refine (open_any _ hA).mono ?_
                  rintro e wY ⟨rfl, rfl⟩
                  rw [(unhide HXF).2.1]
                  go_wp2_with fail
                  refine (down_any _ hA).mono ?_
                  rintro e wZ ⟨rfl, rfl⟩
                  rw [(unhide HXF).2.2.1]
                  go_wp2
                  go_ret
                  exact ⟨by rfl, unhide HBEL⟩
end Go.Proofs.Ytmkmebogfcbphaa
