/- Texts that the proof needs, one behind the other. -/
import Derived.Test.YtlmgmdnmghgkbaaGreatDoorMam
import Derived.Test.YtlmgmdnmghgkbaaGreatDoorMai
import Derived.Test.YtlmgmdnmghgkbaaGreatDoorMaj
/- The document's heap: Drop, which calls itself. -/
namespace Go.Proofs.YtlmgmdnmghgkbaaGreatDoor
open Go.ChangeShapes Go.WideShapes Go.ChangeAt Go.RowKit
variable {w w' : World} {q r : Nat} {h : Hp} {a g : Nat} {fr : List Nat} {kv : List Value} {F : List Nat}

theorem RhAt.gen64 (H : RhAt w q r h a g fr kv) : L5.I64 h.gen := by have := H.gen; unfold L5.I64; omega

set_option maxHeartbeats 4000000 in
set_option maxRecDepth 20000 in
theorem rhdrop (f : Nat) : ∀ (h : Hp) (x : Int) (F : List Nat) (w : World), IsRh w q h F → heldL h.al < f → L5.I64 x → h.near →
    Calls Tryz.prog 57 #[.pointer (some ⟨q, 0, none⟩), .int .i64 x] w fun e w' => e = .returned (.int .i64 (L5.dropE 2 h.al x)) ∧ RhTurned w w' q (dropH f h x) F := by
  induction f with
  | zero => intro h x F w H hf; omega
  | succ f ih =>
  intro h x F w H hf hq hnear
  have HIH := hide ih
  clear ih
  obtain ⟨r, a, g, fr, kv, H, rfl⟩ := H
  have c1 := H.cell1
  have HH0 := hide H
  have HQ := hide hq
  have HN := hide hnear
  have HF := hide hf
  clear H hf hq hnear
  by_cases hz : cntL h.al x = 0
  · have hE : L5.dropE 2 h.al x = 51 := by unfold L5.dropE; exact if_pos hz
    have hz' : ((L5.cntS (L5.sec 2 h.al x) : Nat) : Int) = 0 := by have : L5.cntS (L5.sec 2 h.al x) = 0 := hz; omega
    have hD : dropH (f + 1) h x = h := by unfold dropH; exact if_pos hz
    have HE := hide hE
    have HD := hide hD
    clear hE hz hD
    go_enter Tryz.func57, Tryz.ntmps57
    go_wp2_with (go_at_call 63; refine (L5.rcount_any x (unhide HQ) _ (unhide HH0).al).mono ?_; rintro e w1 ⟨rfl, hb1⟩; rw [hz']; have HB1 := hide hb1; clear hb1)
    go_ret
    rw [unhide HD, unhide HE]
    exact ⟨rfl, IsRh.stays ⟨r, a, g, fr, kv, unhide HH0, rfl⟩ (unhide HB1)⟩
  · have hE := dropE_zero h.al x hz
    have hin := cnt_in (l := h.al) (p := x) (by omega)
    have hfew := (unhide HH0).al.ok.few
    have hx0 : 2 ≤ x ∧ x < 4096 := by unfold L5.In at hin; omega
    obtain ⟨i, rfl⟩ : ∃ i : Nat, x = (i : Int) := ⟨x.toNat, by omega⟩
    have hi4 : i < 4096 := by omega
    have hz' : (((L5.cntS (L5.sec 2 h.al (i : Int)) : Nat) : Int) == 0) = false := beq_eq_false_iff_ne.2 (by have : ¬ L5.cntS (L5.sec 2 h.al (i : Int)) = 0 := hz; omega)
    obtain ⟨C, hC⟩ : ∃ y, y = ((L5.cntS (L5.sec 2 h.al (i : Int)) : Nat) : Int) := ⟨_, rfl⟩
    rw [← hC] at hz'
    have HCE := hide hC
    have HE := hide hE
    have HZ := hide hz
    have HI4 := hide hi4
    clear hE hin hfew hx0 hC hz
    obtain ⟨v0, hv0, hI0⟩ := (unhide HH0).kidAt hi4
    obtain ⟨a0, cap0, rfl⟩ := hI0.form
    have HV0 := hide hv0
    have HI0 := hide hI0
    clear hv0 hI0
    go_enter Tryz.func57, Tryz.ntmps57
    go_wp2_with (go_at_call 63; refine (L5.rcount_any (i : Int) (unhide HQ) _ (unhide HH0).al).mono ?_; rintro e w1 ⟨rfl, hb1⟩; rw [← unhide HCE]; have R1 := (unhide HH0).grow hb1; have d1 := R1.cell1; have d2 := R1.cell2; have dk := R1.cellK (unhide HV0); have HB1 := hide hb1; have HH1 := hide R1; clear hb1 R1)
    have HH1d : Hid (RhAt w1.drew q r h a g fr kv) := (unhide HH1).grow (below_drew w1)
    clear dk
    go_region_held3 (fun w' => w'.cell? ⟨q, 1, none⟩ = some (.pointer (some ⟨a, 0, none⟩)) ∧ w'.cell? ⟨q, 2, none⟩ = some (.int .i64 h.gen))
      (first | assumption | exact ⟨d1, d2⟩ | exact ⟨e1, e2⟩)
      (first
        | (go_at_call 98; go_split_ands; refine (L5.rdrop_any (i : Int) h.gen _ (unhide HH1d).al (unhide HQ) (unhide HH1d).gen64).mono ?_; rintro e w2 ⟨rfl, ha, hm⟩; have R2 := (unhide HH1d).alloc hm ha (length_drop _ _ _); have e1 := R2.cell1; have e2 : w2.cell? ⟨q, 2, none⟩ = some (.int .i64 h.gen) := R2.cell2; have HH2 := hide R2; have HM2 := hide hm; clear ha hm R2))
    have HT2 : Hid (Moves (rfoot q a g fr) w w2) := ((L5.Moves.of_below _ (below_then (unhide HB1) (below_drew w1))).then ((unhide HM2).mono (fun x hx => .inl (by simp at hx; simp [rfoot, hx]))))
    have HI2 : Hid (Ints w2 (.slice a0 (h.kids i).length cap0) (h.kids i)) := ((unhide HI0).grow (below_then (unhide HB1) (below_drew w1))).same (fun b hb => (unhide HM2).block b (((unhide HI0).grow (below_then (unhide HB1) (below_drew w1))).lt b hb) (fun hx => (unhide HH1d).row ((unhide HI0).grow (below_then (unhide HB1) (below_drew w1))) hb (by simp at hx; simp [rfoot, hx])))
    clear c1 d1 d2 e2 HH1 HH1d HB1 HM2 HI0 HCE hz'
    by_cases hz2 : 0 < cntL (L5.dropM 2 h.al (i : Int) h.gen) (i : Int)
    · have hD : dropH (f + 1) h (i : Int) = { h with al := L5.dropM 2 h.al (i : Int) h.gen } := by unfold dropH; rw [if_neg (show ¬ h.cnt (i : Int) = 0 from unhide HZ), if_pos hz2]
      have hz2' : (((L5.cntS (L5.sec 2 (L5.dropM 2 h.al (i : Int) h.gen) (i : Int)) : Nat) : Int) == 0) = false := beq_eq_false_iff_ne.2 (by have : 0 < L5.cntS (L5.sec 2 (L5.dropM 2 h.al (i : Int) h.gen) (i : Int)) := hz2; omega)
      obtain ⟨C2, hC2⟩ : ∃ y, y = ((L5.cntS (L5.sec 2 (L5.dropM 2 h.al (i : Int) h.gen) (i : Int)) : Nat) : Int) := ⟨_, rfl⟩
      rw [← hC2] at hz2'
      have HCE := hide hC2
      have HD := hide hD
      clear hz2 hD hC2
      go_wp2_with (go_at_call 63; refine (L5.rcount_any (i : Int) (unhide HQ) _ (unhide HH2).al).mono ?_; rintro e w3 ⟨rfl, hb3⟩; rw [← unhide HCE]; have HB3 := hide hb3; clear hb3)
      go_ret
      rw [unhide HD, unhide HE]
      exact ⟨rfl, _, ⟨r, a, g, fr, kv, (unhide HH2).grow (unhide HB3), rfl⟩, (unhide HT2).then (L5.Moves.of_below _ (unhide HB3)), fun x hx => .inl hx⟩
    · have hD : dropH (f + 1) h (i : Int) = (h.kids i).foldl (dropH f) { h with al := L5.dropM 2 h.al (i : Int) h.gen, kids := setK h.kids i [] } := by rw [dropH, if_neg (show ¬ h.cnt (i : Int) = 0 from unhide HZ), if_neg hz2]; rfl
      have hC0 : ((L5.cntS (L5.sec 2 (L5.dropM 2 h.al (i : Int) h.gen) (i : Int)) : Nat) : Int) = 0 := by have : ¬ 0 < L5.cntS (L5.sec 2 (L5.dropM 2 h.al (i : Int) h.gen) (i : Int)) := hz2; omega
      have HC := hide hC0
      have HD := hide hD
      have hheld : heldL (L5.dropM 2 h.al (i : Int) h.gen) < f := by
        have h1 := held_drop_last h.al (i : Int) h.gen (by have := unhide HZ; omega) (by omega)
        have h2 := unhide HF
        omega
      have HHELD := hide hheld
      clear hz2 hD hC0 hheld
      go_wp2_with (go_at_call 63; refine (L5.rcount_any (i : Int) (unhide HQ) _ (unhide HH2).al).mono ?_; rintro e w3 ⟨rfl, hb3⟩; rw [unhide HC]; have R3 := (unhide HH2).grow hb3; have ck3 := R3.cellK (unhide HV0); have f3 := R3.free (3 + i); have HH3 := hide R3; have HT3 := hide ((unhide HT2).then (L5.Moves.of_below _ hb3)); have HI3 := hide ((unhide HI2).grow hb3); clear hb3 R3)
      have h4 := (unhide HH3).setK (i := i) (Ints.nil w3)
      have HT4 : Hid (RhTurned w (w3.setCell ⟨q, 3 + i, none⟩ (.slice none 0 0)) q { h with al := L5.dropM 2 h.al (i : Int) h.gen, kids := setK h.kids i [] } (rfoot q a g fr)) := ⟨_, ⟨r, a, g, fr, _, h4, rfl⟩, (unhide HT3).then (L5.Moves.set _ _ _ _ (by simp [rfoot])), fun x hx => .inl hx⟩
      have HI4' : Hid (Ints (w3.setCell ⟨q, 3 + i, none⟩ (.slice none 0 0)) (.slice a0 (h.kids i).length cap0) (h.kids i)) := (unhide HI3).same (fun b hb => (L5.Moves.set w3 q (3 + i) (.slice none 0 0) (fp := [q]) (by simp)).block b ((unhide HI3).lt b hb) (fun hx => (unhide HH3).row (unhide HI3) hb (by simp at hx; simp [rfoot, hx])))
      have HNE := hide (unhide HN i)
      have HN4 := hide (near_setK (unhide HN) i (L5.dropM 2 h.al (i : Int) h.gen))
      clear h4 HH2 HH3 HT2 HT3 HI2 HI3 HN ck3 f3 e1 HC
      generalize w3.setCell ⟨q, 3 + i, none⟩ (.slice none 0 0) = w4 at *
      generalize h.kids i = ks at *
      have hlen : ks.length ≤ maxLen := (unhide HI4').len
      unfold maxLen at hlen
      go_wp2_with fail
      go_loopw [6] (fun t wr => ∃ k : Nat, k ≤ ks.length ∧ t = .int .i64 (k : Int) ∧ RhTurned w wr q ((ks.take k).foldl (dropH f) { h with al := L5.dropM 2 h.al (i : Int) h.gen, kids := setK h.kids i [] }) (rfoot q a g fr) ∧ Ints wr (.slice a0 ks.length cap0) ks) (fun t _ => ks.length - (intOf t).toNat)
      case atStart => exact ⟨0, Nat.zero_le _, rfl, unhide HT4, unhide HI4'⟩
      case round =>
        clear HT4 HI4'
        obtain ⟨k, hk, rfl, ht, hv⟩ := hrel
        by_cases hlt : k < ks.length
        · obtain ⟨gb, rfl, hcell⟩ := hv.at k hlt
          obtain ⟨F1, H1, hm1, hf1⟩ := ht
          have hx := unhide HNE _ (List.getElem_mem hlt)
          have hI : L5.I64 ks[k] := by unfold L5.I64; omega
          have HI := hide hI
          have hlt' : (k : Int) < (ks.length : Int) := by omega
          have HH1 := hide H1
          have HX1 := hide (And.intro hm1 hf1)
          have HV1 := hide hv
          obtain ⟨X, hX⟩ : ∃ y, y = ks[k] := ⟨_, rfl⟩
          rw [← hX] at hcell HI
          have HXE := hide hX
          clear H1 hI hm1 hf1 hv hx hX
          go_wp2_with (go_at_call 57; refine (unhide HIH _ X F1 _ (unhide HH1) (Nat.lt_of_le_of_lt (held_fold f _ _) (unhide HHELD)) (unhide HI) (near_fold f _ _ (unhide HN4))).mono ?_; rintro e w7 ⟨rfl, ht7⟩; have HX7 := hide ht7; clear ht7)
          go_roundw
          case rel =>
            obtain ⟨hm1, hf1⟩ := unhide HX1
            have e1 : (ks.take (k + 1)).foldl (dropH f) { h with al := L5.dropM 2 h.al (i : Int) h.gen, kids := setK h.kids i [] } = dropH f ((ks.take k).foldl (dropH f) { h with al := L5.dropM 2 h.al (i : Int) h.gen, kids := setK h.kids i [] }) X := by
              rw [List.take_add_one, List.getElem?_eq_getElem hlt, ← unhide HXE, List.foldl_append]
              rfl
            refine ⟨k + 1, by omega, by go_num, ?_, ?_⟩
            · rw [e1]
              exact RhTurned.then hm1 hf1 (unhide HX7)
            · obtain ⟨_, _, k2, _⟩ := unhide HX7
              exact (unhide HH1).ints (unhide HV1) k2
          case measure => simp [intOf]; omega
        · obtain rfl : k = ks.length := by omega
          rw [List.take_length] at ht
          have hlt' : ¬ (ks.length : Int) < (ks.length : Int) := by omega
          have HT := hide ht
          clear ht hv
          go_wp2
          go_ret
          rw [unhide HD, unhide HE]
          exact ⟨rfl, unhide HT⟩
theorem rhdrop_any (x : Int) (hx : L5.I64 x) (w : World) (H : IsRh w q h F) (hn : h.near) :
    Calls Tryz.prog 57 #[.pointer (some ⟨q, 0, none⟩), .int .i64 x] w fun e w' => e = .returned (.int .i64 (L5.dropE 2 h.al x)) ∧ RhTurned w w' q (dropR h x) F :=
  rhdrop (h.al.length + 1) h x F w H (by have := heldL_le h.al; omega) hx hn
end Go.Proofs.YtlmgmdnmghgkbaaGreatDoor

/- What stays of a heap, whatever is called: its kids are places, and those of a place that nobody holds are none; few writes. -/
namespace Go.Proofs.YtlmgmdnmghgkbaaGreatDoor

structure Fine (h : Hp) (t : Nat) : Prop where
  bare : h.bare
  near : h.near
  few : h.dk.op.length ≤ t
theorem bare_dropH (f : Nat) : ∀ (h : Hp) (p : Int), h.bare → h.near → (dropH f h p).bare ∧ (dropH f h p).near := by
  induction f with
  | zero => intro h p hb hn; exact ⟨hb, hn⟩
  | succ f ih =>
    intro h p hb hn
    have hf : ∀ (ks : List Int) (h : Hp), h.bare → h.near → (ks.foldl (dropH f) h).bare ∧ (ks.foldl (dropH f) h).near := by
      intro ks
      induction ks with
      | nil => intro h hb hn; exact ⟨hb, hn⟩
      | cons k r ihr => intro h hb hn; exact ihr _ (ih h k hb hn).1 (ih h k hb hn).2
    unfold dropH
    split
    · exact ⟨hb, hn⟩
    · rename_i hz
      split
      · rename_i hz2
        refine ⟨fun q hq => ?_, hn⟩
        have hq' : cntL (L5.dropM 2 h.al p h.gen) (q : Int) = 0 := hq
        rw [cnt_drop] at hq'
        split at hq'
        · rename_i e
          rw [cnt_drop, if_pos rfl] at hz2
          omega
        · exact hb q hq'
      · rename_i hz2
        refine hf _ _ (fun q hq => ?_) (near_setK hn _ _)
        have hq' : cntL (L5.dropM 2 h.al p h.gen) (q : Int) = 0 := hq
        show setK h.kids p.toNat [] q = []
        unfold setK
        split
        · rfl
        · rename_i hne
          rw [cnt_drop] at hq'
          split at hq'
          · rename_i e
            exact absurd (by rw [← e]; rfl) hne
          · exact hb q hq'
theorem dropH_dk (f : Nat) : ∀ (h : Hp) (p : Int), (dropH f h p).dk = h.dk ∧ (dropH f h p).gen = h.gen := by
  induction f with
  | zero => intro h p; exact ⟨rfl, rfl⟩
  | succ f ih =>
    intro h p
    have hf : ∀ (ks : List Int) (h : Hp), (ks.foldl (dropH f) h).dk = h.dk ∧ (ks.foldl (dropH f) h).gen = h.gen := by
      intro ks
      induction ks with
      | nil => intro h; exact ⟨rfl, rfl⟩
      | cons k r ihr => intro h; exact ⟨(ihr _).1.trans (ih h k).1, (ihr _).2.trans (ih h k).2⟩
    unfold dropH
    split
    · exact ⟨rfl, rfl⟩
    · split
      · exact ⟨rfl, rfl⟩
      · exact ⟨(hf _ _).1, (hf _ _).2⟩
theorem Fine.drop {h : Hp} {t : Nat} (hf : Fine h t) (p : Int) : Fine (dropR h p) t :=
  ⟨(bare_dropH _ h p hf.bare hf.near).1, (bare_dropH _ h p hf.bare hf.near).2, by unfold dropR; rw [(dropH_dk _ h p).1]; exact hf.few⟩
theorem cnt_hold_zero {l : List L5.St} {p q : Int} (h : cntL (L5.holdM 2 l p) q = 0) : cntL l q = 0 := by
  by_cases h0 : cntL l p = 0
  · have e : L5.holdM 2 l p = l := by
      unfold L5.holdM
      split
      · rfl
      · have e : L5.holdS (L5.sec 2 l p) = L5.sec 2 l p := by
          unfold cntL at h0
          match hs : L5.sec 2 l p, h0 with
          | none, _ => rfl
          | some (0, g'), _ => rfl
        rw [e, upd_self]
    rw [e] at h
    exact h
  · by_cases h5 : cntL l p = 5000
    · have e : L5.holdM 2 l p = l := by
        unfold L5.holdM
        exact if_pos h5
      rw [e] at h
      exact h
    · rw [cnt_hold l p q (by omega) h5] at h
      split at h
      · omega
      · exact h
theorem cnt_holdAll_zero : ∀ (ks : List Int) (l : List L5.St) (q : Int), cntL (holdAll l ks) q = 0 → cntL l q = 0
  | [], _, _, h => h
  | k :: r, l, q, h => cnt_hold_zero (cnt_holdAll_zero r (L5.holdM 2 l k) q h)
theorem Fine.hold {h : Hp} {t : Nat} (hf : Fine h t) (p : Int) : Fine (holdR h p) t :=
  ⟨fun q hq => hf.bare q (cnt_hold_zero hq), hf.near, hf.few⟩
theorem Fine.settle {h : Hp} {t : Nat} (hf : Fine h t) : Fine (settleM h) t := by
  unfold settleM
  split
  · exact hf
  · exact ⟨fun q hq => hf.bare q (by have : cntL (L5.freeM h.al h.gen) (q : Int) = 0 := hq; rw [cnt_free] at this; exact this), hf.near, hf.few⟩
theorem op_write (m : L3.Dk) (n : Int) (s : ByteArray) : (L3.writeM m n s).op.length ≤ m.op.length + 1 := by
  unfold L3.writeM
  repeat' split
  all_goals first | exact Nat.le_succ _ | (simp)
theorem cnt_take {l : List L5.St} {g : Int} {q : Int} (h : cntL (L5.takeM l g) q = 0) : cntL l q = 0 := by
  cases hi : L5.takeI l with
  | none =>
    have e : L5.takeM l g = l := by unfold L5.takeM; rw [hi]
    rw [e] at h
    exact h
  | some i =>
    obtain ⟨hin, hs, hm⟩ := take_at hi g
    rw [hm, cnt_upd hin] at h
    split at h
    · exact absurd h (show ¬ (1 : Nat) = 0 by decide)
    · exact h
theorem Fine.put {h : Hp} {t : Nat} (hf : Fine h t) (n : L6.Nd) : Fine (putR h n).2.2 (t + 1) := by
  have h0 : Fine h (t + 1) := ⟨hf.bare, hf.near, Nat.le_succ_of_le hf.few⟩
  unfold putR
  split
  · exact h0
  · rename_i hE
    have hE : (L6.encodeN n).2 = 0 := Classical.byContradiction hE
    split
    · exact h0
    · split
      · rename_i hW
        unfold storeR at hW ⊢
        split
        · exact h0
        · rename_i h1
          have h1 : L5.takeE h.al = 0 := Classical.byContradiction h1
          split
          · refine ⟨?_, hf.near, Nat.le_trans (op_write _ _ _) (by have := hf.few; omega)⟩
            show Hp.bare { h with dk := _, al := L5.dropM 2 (L5.takeM h.al h.gen) (L5.takeN 2 h.al) h.gen }
            rw [take_drop h1]
            exact hf.bare
          · rename_i h2
            refine ⟨fun q hq => hf.bare q (cnt_take hq), hf.near, Nat.le_trans (op_write _ _ _) (by have := hf.few; omega)⟩
      · rename_i hW
        have hW : (storeR h (sectorN h.gen n)).2.1 = 0 := Classical.byContradiction hW
        obtain ⟨i, hi, hst, _⟩ := storeR_ok hW
        rw [hst]
        obtain ⟨hin, hs, hm⟩ := take_at hi h.gen
        refine ⟨fun q hq => ?_, fun q x hx => ?_, Nat.le_trans (op_write _ _ _) (by have := hf.few; omega)⟩
        · have hq' : cntL (holdAll (L5.takeM h.al h.gen) (places n)) (q : Int) = 0 := hq
          have h3 := cnt_holdAll_zero _ _ _ hq'
          show setK h.kids ((2 : Int) + (i : Int)).toNat (places n) q = []
          unfold setK
          split
          · rename_i e
            rw [hm, cnt_upd hin, if_pos (by omega)] at h3
            exact absurd h3 (show ¬ (1 : Nat) = 0 by decide)
          · exact hf.bare q (cnt_take h3)
        · have hx' : x ∈ setK h.kids ((2 : Int) + (i : Int)).toNat (places n) q := hx
          unfold setK at hx'
          split at hx'
          · exact enc_places hE x hx'
          · exact hf.near q x hx'
theorem Fine.power {h : Hp} {t : Nat} (hf : Fine h t) (m : L3.Dk) (hm : m.op.length ≤ h.dk.op.length) : Fine { h with dk := m } t := ⟨hf.bare, hf.near, Nat.le_trans hm hf.few⟩
end Go.Proofs.YtlmgmdnmghgkbaaGreatDoor

/- Plain mathematics of a heap: a node that is put is read again; Put where all is well. -/
namespace Go.Proofs.YtlmgmdnmghgkbaaGreatDoor

theorem decode_encode {n : L6.Nd} (he : (L6.encodeN n).2 = 0) : L6.decodeN (L6.encodeN n).1 = (n, 0) := by
  obtain ⟨h1, h2⟩ := enc_ok he
  have hr := L6.checkN_right h1
  have hz := enc_size he
  have hb : L6.bn (L6.encodeN n).1 = L6.ndL n := by
    rw [h2]
    exact L6.bn_strOf _ (L6.ndL_lt n)
  obtain ⟨_, _, L1, e, _⟩ := L6.read_right hb hr hz
  unfold L6.decodeN
  rw [e]
  rw [if_pos ⟨hz, by show L6.encodeN n = _; rw [h2]⟩]
theorem sector_ok {n : L6.Nd} {g : Int} (he : (L6.encodeN n).2 = 0) (g0 : 0 ≤ g) (g1 : g ≤ 1152921504606846976) : sectorN g n = L4.strOf (L4.Blk.sector (kindN n) g.toNat (L4.bn (L6.encodeN n).1)) := by
  unfold sectorN
  have hk := kindN_le n
  rw [L4.wrapR_ok (by omega) (by have := enc_size he; omega)]
  rfl
theorem sector_size {n : L6.Nd} {g : Int} (he : (L6.encodeN n).2 = 0) (g0 : 0 ≤ g) (g1 : g ≤ 1152921504606846976) : (sectorN g n).size = 1024 := by
  rw [sector_ok he g0 g1, L4.strOf_size, L4.Blk.sector_length _ _ _ (by rw [L4.bn_length]; exact enc_size he)]
/-- what was put is read -/
theorem nodeOf_sector {n : L6.Nd} {g : Int} (he : (L6.encodeN n).2 = 0) (g0 : 0 ≤ g) (g1 : g ≤ 1152921504606846976) : nodeOf (sectorN g n) = (n, g, 0) := by
  have ho : L4.openR (sectorN g n) = (((kindN n : Nat) : Int), g, (L6.encodeN n).1, 0) := by
    rw [sector_ok he g0 g1, L4.open_wrap (kindN_le n) (by omega) (enc_size he), Int.toNat_of_nonneg g0]
  unfold nodeOf
  rw [ho]
  simp only [decode_encode he]
  simp
/-- a disk whose power stays -/
def Lit (m : L3.Dk) : Prop := m.gone = false ∧ m.left = -1
theorem write_lit {m : L3.Dk} (hl : Lit m) {q : Int} {S : ByteArray} (h0 : 0 ≤ q) (h1 : q < (m.old.length : Int)) (hS : S.size = 1024) : L3.writeE m q S = 0 ∧ L3.writeM m q S = { m with op := m.op ++ [(q.toNat, S)] } := by
  obtain ⟨hg, hl⟩ := hl
  have e1 : ¬ m.gone = true := by rw [hg]; decide
  have e2 : ¬ m.left = 0 := by rw [hl]; decide
  have e3 : ¬ (q < 0 ∨ (m.old.length : Int) ≤ q) := by omega
  constructor
  · unfold L3.writeE
    rw [if_neg e1, if_neg e2, if_neg e3, if_neg (by omega)]
  · unfold L3.writeM
    rw [if_neg e1, if_neg e2, if_neg e3, if_neg (by omega)]
    have : L3.spent m.left = m.left := by rw [hl]; rfl
    rw [this]
theorem read_lit {m : L3.Dk} (hl : Lit m) {q : Int} (h0 : 0 ≤ q) (h1 : q < (m.old.length : Int)) : L3.readM m q = ((L3.lastW m.op q.toNat).getD (m.old.getD q.toNat ByteArray.empty), 0) := by
  unfold L3.readM
  rw [if_neg (by rw [hl.1]; decide), if_neg (by omega)]
theorem read_write {m : L3.Dk} (hl : Lit m) {q x : Int} {S : ByteArray} (h0 : 0 ≤ q) (h1 : q < (m.old.length : Int)) (hx : 0 ≤ x) (hx1 : x < (m.old.length : Int)) :
    L3.readM { m with op := m.op ++ [(q.toNat, S)] } x = if x = q then (S, 0) else L3.readM m x := by
  have hl' : Lit { m with op := m.op ++ [(q.toNat, S)] } := hl
  rw [read_lit hl' hx hx1, read_lit hl hx hx1]
  simp only
  rw [L3.lastW_snoc]
  by_cases e : x = q
  · subst e
    simp
  · rw [if_neg e, if_neg (by simp; omega)]
/-- Put where all is well -/
theorem put_ok {h : Hp} {n : L6.Nd} {i : Nat} (he : (L6.encodeN n).2 = 0) (hm : mayE h.al (places n) = 0) (hi : L5.takeI h.al = some i) (hl : Lit h.dk) (hlen : 2 + h.al.length = h.dk.old.length) (g0 : 0 ≤ h.gen) (g1 : h.gen ≤ 1152921504606846976) :
    putR h n = ((2 : Int) + (i : Int), 0, { dk := { h.dk with op := h.dk.op ++ [(2 + i, sectorN h.gen n)] }, al := holdAll (L5.upd 2 h.al ((2 : Int) + (i : Int)) (some (1, h.gen))) (places n), gen := h.gen, kids := setK h.kids (2 + i) (places n) }) := by
  obtain ⟨hin, hs, ht⟩ := take_at hi h.gen
  have hin' := hin
  unfold L5.In at hin'
  obtain ⟨hw1, hw2⟩ := write_lit hl (q := (2 : Int) + (i : Int)) (S := sectorN h.gen n) (by omega) (by omega) (sector_size he g0 g1)
  have hst : storeR h (sectorN h.gen n) = ((2 : Int) + (i : Int), 0, { h with dk := L3.writeM h.dk ((2 : Int) + (i : Int)) (sectorN h.gen n), al := L5.takeM h.al h.gen }) := by
    have hte : L5.takeE h.al = 0 := by unfold L5.takeE; rw [hi]
    have htn : L5.takeN 2 h.al = (2 : Int) + (i : Int) := by unfold L5.takeN; rw [hi]; rfl
    unfold storeR
    rw [if_neg (fun hn => hn hte), htn, if_neg (fun hn => hn hw1)]
  have e : ((2 : Int) + (i : Int)).toNat = 2 + i := by omega
  unfold putR
  rw [if_neg (fun hn => hn he), if_neg (fun hn => hn hm), hst]
  simp only [ne_eq, not_true_eq_false, if_false, hw2, ht, e]
end Go.Proofs.YtlmgmdnmghgkbaaGreatDoor

/- The document's example: awake; a nil heap. -/
namespace Go.Proofs.YtlmgmdnmghgkbaaGreatDoor
open Go.ChangeShapes Go.WideShapes Go.ChangeAt Go.RowKit

def aw0 : Hp := newH (L3.newM 8) 1
def aw1 : Hp := { dk := { aw0.dk with op := aw0.dk.op ++ [(2, sectorN 1 (leafN 1))] }, al := [some (1, 1), none, none, none, none, none], gen := 1, kids := fun _ => [] }
def aw2 : Hp := { dk := { aw1.dk with op := aw1.dk.op ++ [(3, sectorN 1 (innerN [2]))] }, al := [some (2, 1), some (1, 1), none, none, none, none], gen := 1, kids := setK (fun _ => []) 3 [2] }
theorem enc_leaf1 : (L6.encodeN (leafN 1)).2 = 0 := by kernel_rfl
theorem enc_inner2 : (L6.encodeN (innerN [2])).2 = 0 := by kernel_rfl
theorem aw_put1 : putR aw0 (leafN 1) = (2, 0, aw1) := by
  rw [put_ok (i := 0) enc_leaf1 (by decide) (by decide) ⟨rfl, rfl⟩ (by decide) (by decide) (by decide)]
  have e : setK aw0.kids (2 + 0) (places (leafN 1)) = fun _ => [] := by
    funext i
    unfold setK
    split <;> rfl
  rw [e]
  rfl
theorem aw_put2 : putR aw1 (innerN [2]) = (3, 0, aw2) := by
  rw [put_ok (i := 1) enc_inner2 (by decide) (by decide) ⟨rfl, rfl⟩ (by decide) (by decide) (by decide)]
  rfl
theorem aw_get : getR aw2 3 = (innerN [2], 0) := by
  unfold getR
  rw [if_neg (by decide)]
  have hr : L3.readM aw2.dk 3 = (sectorN 1 (innerN [2]), 0) := by
    have := read_write (m := aw1.dk) ⟨rfl, rfl⟩ (q := 3) (x := 3) (S := sectorN 1 (innerN [2])) (by decide) (by decide) (by decide) (by decide)
    rw [if_pos rfl] at this
    exact this
  unfold fetchM
  rw [hr]
  have hn := nodeOf_sector (n := innerN [2]) (g := 1) enc_inner2 (by decide) (by decide)
  simp only [ne_eq, not_true_eq_false, if_false, hn]
theorem aw_bare0 : aw0.bare := fun _ _ => rfl
theorem aw_bare1 : aw1.bare := fun _ _ => rfl

/-- nothing that was there has turned: F is new -/
theorem turned_below {w0 w w' : World} {p d : Nat} {h : Hp} {c : Nat} {F : List Nat} (h0 : Below w0.heap.size w0 w) (k : HTurned w w' p d h c F) (hF : ∀ x ∈ F, w0.heap.size ≤ x) : ∃ F', IsHeap w' p d h c F' ∧ Below w0.heap.size w0 w' ∧ ∀ x ∈ F', w0.heap.size ≤ x := by
  have hb := k.below h0 hF h0.size
  obtain ⟨F', k1, k2, k3⟩ := k
  refine ⟨F', k1, hb, fun x hx => ?_⟩
  rcases k3 x hx with h1 | h1
  · exact hF x h1
  · exact Nat.le_trans h0.size h1
set_option maxHeartbeats 2000000 in
set_option maxRecDepth 20000 in
theorem awake_any (w : World) (hT : L4.Tab w) : Calls Tryz.prog 12 #[] w fun e w' => e = .returned (.bool true) ∧ Below w.heap.size w w' := by
  have HT := hide hT
  clear hT
  go_enter Tryz.func12, Tryz.ntmps12
  go_wp2_with (go_at_call 44; refine (begun_ok 8 _ (unhide HT) (by decide) (by decide)).mono ?_; rintro e w1 ⟨p, q, d, F, rfl, hp, hb, hf⟩; have HP := hide hp; have HB := hide hb; have HF := hide hf; clear hp hb hf)
  refine (leaf_any 1 w1).mono ?_
  rintro e w2 ⟨ai, ak, ci, ck, rfl, hh, hb, _⟩
  have HP2 : Hid (IsHeap w2 p d aw0 0 F) := (unhide HP).grow hb
  have HB2 := hide (below_then (unhide HB) hb)
  have HH2 := hide hh
  clear hh hb HP HB
  go_wp2_with fail
  refine (hput_any (leafN 1) ai ak ci ck w2 (unhide HP2) (unhide HH2) (by decide) (by decide) aw_bare0 (by decide)).mono ?_
  rw [aw_put1]
  rintro e w3 ⟨rfl, ht⟩
  obtain ⟨F3, hp, hb, hf⟩ := turned_below (unhide HB2) ht (unhide HF)
  have HP3 := hide hp
  have HB3 := hide hb
  have HF3 := hide hf
  clear hp hb hf ht HP2 HB2 HH2 HF
  have hI : Irow (w3.alloc (.cells #[.int .i64 2] 3)) (some ⟨w3.heap.size, 0, none⟩) [2] := by
    refine .inr ⟨_, _, rfl, fun i x hx => ?_⟩
    match i, hx with
    | 0, hx => simp at hx; subst hx; simp
    | i + 1, hx => simp at hx
  have HI := hide hI
  clear hI
  go_wp2_with fail
  refine (inner_any [2] (some ⟨w3.heap.size, 0, none⟩) 1 _ (unhide HI) (by decide)).mono ?_
  rintro e w4 ⟨ai, ak, ci, ck, rfl, hh, hb, _⟩
  have hb' := below_then (below_alloc w3 (.cells #[.int .i64 2] 3)) hb
  have HP4 := hide ((unhide HP3).grow hb')
  have HB4 := hide (below_then (unhide HB3) hb')
  have HH4 := hide hh
  clear hh hb hb' HP3 HB3
  go_wp2_with fail
  refine (hput_any (innerN [2]) ai ak ci ck w4 (unhide HP4) (unhide HH4) (by decide) (by decide) aw_bare1 (by decide)).mono ?_
  rw [aw_put2]
  rintro e w5 ⟨rfl, ht⟩
  obtain ⟨F5, hp, hb, hf⟩ := turned_below (unhide HB4) ht (unhide HF3)
  have HP5 := hide hp
  have HB5 := hide hb
  clear hp hb hf ht HP4 HB4 HH4 HF3
  go_wp2_with fail
  refine (hget_any 3 ⟨by decide, by decide⟩ w5 (unhide HP5)).mono ?_
  rw [aw_get]
  rintro e w6 ⟨ai, ak, ci, ck, rfl, hh, hb⟩
  have hN := L6.Nblk.new w6 false ai ak 0 ci 1 ck
  have hb6 := below_alloc w6 (.cells #[.bool false, .slice ai 0 ci, .slice ak 1 ck] 43)
  have x2 := hN.cell2
  have HP6 := hide (((unhide HP5).grow hb).grow hb6)
  have HB6 := hide (below_then (below_then (unhide HB5) hb) hb6)
  have hc2 : (aw2.cnt 2 : Int) = 2 := by decide
  clear hh hb hN hb6 HP5 HB5
  go_wp2_with (go_at_call 39; refine (hcount_any 2 ⟨by decide, by decide⟩ _ (unhide HP6)).mono ?_; rintro e w7 ⟨rfl, hw⟩; rw [hw]; clear hw w7; rw [hc2])
  go_ret
  exact ⟨rfl, unhide HB6⟩

end Go.Proofs.YtlmgmdnmghgkbaaGreatDoor

/- The law's calls in memory; the node of a call that puts. -/
namespace Go.Proofs.YtlmgmdnmghgkbaaGreatDoor
open Go.ChangeShapes Go.WideShapes Go.ChangeAt Go.RowKit

structure Cl where
  kind : Int
  n : Int
  kids : List Int
  nd : L6.Nd
def nodeC (c : Cl) : L6.Nd := if c.kind = 0 then leafN c.n else if c.kind = 1 then innerN c.kids else c.nd
/-- a call's cells -/
def clV (c : Cl) (a1 : Option Addr) (c1 : Nat) (ai : Option Addr) (ci : Nat) (ak : Option Addr) (ck : Nat) : List Value :=
  [.int .i64 c.kind, .int .i64 c.n, .slice a1 c.kids.length c1, .bool c.nd.leaf, .slice ai c.nd.its.length ci, .slice ak c.nd.kds.length ck]
/-- below B -/
def Under (B : Nat) (a : Option Addr) : Prop := ∀ x, a = some x → x.block < B
/-- what a call leads to, below B -/
structure ClAt (B : Nat) (w : World) (c : Cl) (a1 ai ak : Option Addr) : Prop where
  ints : Irow w a1 c.kids
  has : L6.Has w c.nd ai ak
  u1 : c.kids = [] ∨ Under B a1
  ui : c.nd.its = [] ∨ Under B ai
  uk : c.nd.kds = [] ∨ Under B ak
  few : c.kids.length ≤ maxLen ∧ c.nd.its.length ≤ maxLen ∧ c.nd.kds.length ≤ maxLen
  n64 : L5.I64 c.n ∧ L5.I64 c.kind
theorem ClAt.grow {B : Nat} {w w' : World} {c : Cl} {a1 ai ak : Option Addr} (h : ClAt B w c a1 ai ak) (hb : Below w.heap.size w w') : ClAt B w' c a1 ai ak := ⟨h.ints.grow hb, h.has.grow hb, h.u1, h.ui, h.uk, h.few, h.n64⟩
/-- calls in a row -/
def Cls (B : Nat) (w : World) (a : Option Addr) (l : List Cl) : Prop := l = [] ∨ ∃ b off, a = some ⟨b, off, none⟩ ∧ b < B ∧ ∀ i c, l[i]? = some c → ∃ a1 c1 ai ci ak ck, ClAt B w c a1 ai ak ∧ ∀ j v, (clV c a1 c1 ai ci ak ck)[j]? = some v → w.cell? ⟨b, off + i * 6 + j, none⟩ = some v
theorem cell_base {B : Nat} {w w' : World} {a : Addr} {v : Value} (h : w.cell? a = some v) (ha : a.block < B) (hb : Below B w w') : w'.cell? a = some v := (hb.cell ha).trans h

/-- where a node's rows stand: below B, or in what is new since -/
def Stands (B s : Nat) (a : Option Addr) : Prop := ∀ x, a = some x → x.block < B ∨ s ≤ x.block
def NodeSaidB (B : Nat) (n : L6.Nd) (w : World) (x : Ending) (w' : World) : Prop := ∃ (ai ak : Option Addr) (ci ck : Nat), x = .returned (.agg #[.bool n.leaf, .slice ai n.its.length ci, .slice ak n.kds.length ck]) ∧ L6.Has w' n ai ak ∧ Below w.heap.size w w' ∧ (n.its = [] ∨ Stands B w.heap.size ai) ∧ (n.kds = [] ∨ Stands B w.heap.size ak)

set_option maxHeartbeats 2000000 in
set_option maxRecDepth 20000 in
theorem node_one (B : Nat) (K n : Int) (kids : List Int) (nd : L6.Nd) (a1 : Option Addr) (c1 : Nat) (ai : Option Addr) (ci : Nat) (ak : Option Addr) (ck : Nat) (w : World) (hc : ClAt B w ⟨K, n, kids, nd⟩ a1 ai ak) (hk : kids.length ≤ 1000) :
    Calls Tryz.prog 60 #[.agg #[.int .i64 K, .int .i64 n, .slice a1 kids.length c1, .bool nd.leaf, .slice ai nd.its.length ci, .slice ak nd.kds.length ck]] w fun x w' => NodeSaidB B (nodeC ⟨K, n, kids, nd⟩) w x w' := by
  by_cases k0 : K = 0
  · subst k0
    have hb0 := below_alloc w (.cells #[.int .i64 0, .int .i64 n, .slice a1 kids.length c1, .bool nd.leaf, .slice ai nd.its.length ci, .slice ak nd.kds.length ck] 45)
    have hs0 : (w.alloc (.cells #[.int .i64 0, .int .i64 n, .slice a1 kids.length c1, .bool nd.leaf, .slice ai nd.its.length ci, .slice ak nd.kds.length ck] 45)).heap.size = w.heap.size + 1 := World.size_alloc _ _
    have hp := L6.Nblk.new (w.alloc (.cells #[.int .i64 0, .int .i64 n, .slice a1 kids.length c1, .bool nd.leaf, .slice ai nd.its.length ci, .slice ak nd.kds.length ck] 45)) false none none 0 0 0 0
    rw [hs0] at hp
    have hb1 := below_then hb0 (below_alloc (w.alloc (.cells #[.int .i64 0, .int .i64 n, .slice a1 kids.length c1, .bool nd.leaf, .slice ai nd.its.length ci, .slice ak nd.kds.length ck] 45)) (.cells #[.bool false, .slice none 0 0, .slice none 0 0] 43))
    have HB := hide hb1
    have HC := hide (hc.grow hb1)
    have HP := hide hp
    have HKL := hide hk
    have HR : Hid (w.heap.size ≤ w.heap.size + 1) := Nat.le_succ _
    clear hb0 hs0 hp hb1 hc hk
    obtain ⟨P, hP⟩ : ∃ x, x = w.heap.size + 1 := ⟨_, rfl⟩
    have hN : nodeC ⟨0, n, kids, nd⟩ = leafN n := rfl
    have HN := hide hN
    clear hN
    go_enter Tryz.func60, Tryz.ntmps60
    go_wp2_with fail
    rw [← hP] at HP HR ⊢
    clear hP
    generalize (w.alloc (.cells #[.int .i64 0, .int .i64 n, .slice a1 kids.length c1, .bool nd.leaf, .slice ai nd.its.length ci, .slice ak nd.kds.length ck] 45)).alloc (.cells #[.bool false, .slice none 0 0, .slice none 0 0] 43) = w1 at *
    refine (leaf_any n w1).mono ?_
    rintro x w2 ⟨bi, bk, di, dk, rfl, hh, hb, fi, fk⟩
    have hp2 := (unhide HP).below hb
    have c0 := hp2.cell0
    have c1' := hp2.cell1
    have c2 := hp2.cell2
    have f0 := hp2.free 0
    have f1 := hp2.free 1
    have f2 := hp2.free 2
    have HP2 := hide hp2
    have HB2 := hide (below_then (unhide HB) hb)
    have HH2 := hide hh
    have HFR := hide (And.intro fi fk)
    have HSZ := hide (unhide HB).size
    clear hp2 hb hh fi fk
    obtain ⟨N, hNN⟩ : ∃ x, x = leafN n := ⟨_, rfl⟩
    rw [← hNN] at HH2 ⊢
    have HNN := hide hNN
    clear hNN
    go_wp2
    have hst := (unhide HP2).store N.leaf bi N.its.length di bk N.kds.length dk (unhide HH2)
    refine bodyPost_ret (v := .agg #[.bool N.leaf, .slice bi N.its.length di, .slice bk N.kds.length dk]) ?_ rfl ?_
    · rw [results_cell rfl]
      go_simp
    · rw [unhide HN, ← unhide HNN]
      exact ⟨bi, bk, di, dk, rfl, hst.2, L6.below_store (L6.below_store (L6.below_store (unhide HB2) P 0 _ (unhide HR)) P 1 _ (unhide HR)) P 2 _ (unhide HR), .inr (fun x hx => .inr (Nat.le_trans (unhide HSZ) ((unhide HFR).1 x hx))), .inr (fun x hx => .inr (Nat.le_trans (unhide HSZ) ((unhide HFR).2 x hx)))⟩
  · by_cases k1 : K = 1
    · subst k1
      have hb0 := below_alloc w (.cells #[.int .i64 1, .int .i64 n, .slice a1 kids.length c1, .bool nd.leaf, .slice ai nd.its.length ci, .slice ak nd.kds.length ck] 45)
      have hs0 : (w.alloc (.cells #[.int .i64 1, .int .i64 n, .slice a1 kids.length c1, .bool nd.leaf, .slice ai nd.its.length ci, .slice ak nd.kds.length ck] 45)).heap.size = w.heap.size + 1 := World.size_alloc _ _
      have hp := L6.Nblk.new (w.alloc (.cells #[.int .i64 1, .int .i64 n, .slice a1 kids.length c1, .bool nd.leaf, .slice ai nd.its.length ci, .slice ak nd.kds.length ck] 45)) false none none 0 0 0 0
      rw [hs0] at hp
      have hb1 := below_then hb0 (below_alloc (w.alloc (.cells #[.int .i64 1, .int .i64 n, .slice a1 kids.length c1, .bool nd.leaf, .slice ai nd.its.length ci, .slice ak nd.kds.length ck] 45)) (.cells #[.bool false, .slice none 0 0, .slice none 0 0] 43))
      have HB := hide hb1
      have HC := hide (hc.grow hb1)
      have HP := hide hp
      have HKL := hide hk
      have HR : Hid (w.heap.size ≤ w.heap.size + 1) := Nat.le_succ _
      clear hb0 hs0 hp hb1 hc hk
      obtain ⟨P, hP⟩ : ∃ x, x = w.heap.size + 1 := ⟨_, rfl⟩
      have hN : nodeC ⟨1, n, kids, nd⟩ = innerN kids := rfl
      have HN := hide hN
      clear hN k0
      go_enter Tryz.func60, Tryz.ntmps60
      go_wp2_with fail
      rw [← hP] at HP HR ⊢
      clear hP
      generalize (w.alloc (.cells #[.int .i64 1, .int .i64 n, .slice a1 kids.length c1, .bool nd.leaf, .slice ai nd.its.length ci, .slice ak nd.kds.length ck] 45)).alloc (.cells #[.bool false, .slice none 0 0, .slice none 0 0] 43) = w1 at *
      refine (inner_any kids a1 c1 w1 (unhide HC).ints (unhide HKL)).mono ?_
      rintro x w2 ⟨bi, bk, di, dk, rfl, hh, hb, fi, fk⟩
      have hp2 := (unhide HP).below hb
      have c0 := hp2.cell0
      have c1' := hp2.cell1
      have c2 := hp2.cell2
      have f0 := hp2.free 0
      have f1 := hp2.free 1
      have f2 := hp2.free 2
      have HP2 := hide hp2
      have HB2 := hide (below_then (unhide HB) hb)
      have HH2 := hide hh
      have HFR := hide (And.intro fi fk)
      have HSZ := hide (unhide HB).size
      clear hp2 hb hh fi fk
      obtain ⟨N, hNN⟩ : ∃ x, x = innerN kids := ⟨_, rfl⟩
      rw [← hNN] at HH2 ⊢
      have HNN := hide hNN
      clear hNN
      go_wp2
      have hst := (unhide HP2).store N.leaf bi N.its.length di bk N.kds.length dk (unhide HH2)
      refine bodyPost_ret (v := .agg #[.bool N.leaf, .slice bi N.its.length di, .slice bk N.kds.length dk]) ?_ rfl ?_
      · rw [results_cell rfl]
        go_simp
      · rw [unhide HN, ← unhide HNN]
        exact ⟨bi, bk, di, dk, rfl, hst.2, L6.below_store (L6.below_store (L6.below_store (unhide HB2) P 0 _ (unhide HR)) P 1 _ (unhide HR)) P 2 _ (unhide HR), .inr (fun x hx => .inr (Nat.le_trans (unhide HSZ) ((unhide HFR).1 x hx))), .inr (fun x hx => .inr (Nat.le_trans (unhide HSZ) ((unhide HFR).2 x hx)))⟩
    · have g0 : (K == 0) = false := beq_eq_false_iff_ne.2 k0
      have g1 : (K == 1) = false := beq_eq_false_iff_ne.2 k1
      have hN : nodeC ⟨K, n, kids, nd⟩ = nd := by unfold nodeC; rw [if_neg k0, if_neg k1]
      have HN := hide hN
      have hb0 := below_alloc w (.cells #[.int .i64 K, .int .i64 n, .slice a1 kids.length c1, .bool nd.leaf, .slice ai nd.its.length ci, .slice ak nd.kds.length ck] 45)
      have hs0 : (w.alloc (.cells #[.int .i64 K, .int .i64 n, .slice a1 kids.length c1, .bool nd.leaf, .slice ai nd.its.length ci, .slice ak nd.kds.length ck] 45)).heap.size = w.heap.size + 1 := World.size_alloc _ _
      have hp := L6.Nblk.new (w.alloc (.cells #[.int .i64 K, .int .i64 n, .slice a1 kids.length c1, .bool nd.leaf, .slice ai nd.its.length ci, .slice ak nd.kds.length ck] 45)) false none none 0 0 0 0
      rw [hs0] at hp
      have hb1 := below_then hb0 (below_alloc (w.alloc (.cells #[.int .i64 K, .int .i64 n, .slice a1 kids.length c1, .bool nd.leaf, .slice ai nd.its.length ci, .slice ak nd.kds.length ck] 45)) (.cells #[.bool false, .slice none 0 0, .slice none 0 0] 43))
      have HB := hide hb1
      have HC := hide hc
      have HP := hide hp
      have HKL := hide hk
      have HR : Hid (w.heap.size ≤ w.heap.size + 1) := Nat.le_succ _
      clear hb0 hs0 hp hb1 hc hk
      have x0 := (unhide HP).cell0
      have x1 := (unhide HP).cell1
      have x2 := (unhide HP).cell2
      have f0 := (unhide HP).free 0
      have f1 := (unhide HP).free 1
      have f2 := (unhide HP).free 2
      clear hN k0 k1
      go_enter Tryz.func60, Tryz.ntmps60
      go_wp2
      have hbX := below_then (below_alloc w (.cells #[.int .i64 K, .int .i64 n, .slice a1 kids.length c1, .bool nd.leaf, .slice ai nd.its.length ci, .slice ak nd.kds.length ck] 45)) (below_alloc (w.alloc (.cells #[.int .i64 K, .int .i64 n, .slice a1 kids.length c1, .bool nd.leaf, .slice ai nd.its.length ci, .slice ak nd.kds.length ck] 45)) (.cells #[.bool nd.leaf, .slice ai nd.its.length ci, .slice ak nd.kds.length ck] 43))
      refine bodyPost_ret (v := .agg #[.bool nd.leaf, .slice ai nd.its.length ci, .slice ak nd.kds.length ck]) ?_ rfl ?_
      · rw [results_cell rfl]
        go_simp
      · rw [unhide HN]
        exact ⟨ai, ak, ci, ck, rfl, (unhide HC).has.grow hbX, hbX, (unhide HC).ui.imp id (fun h x hx => .inl (h x hx)), (unhide HC).uk.imp id (fun h x hx => .inl (h x hx))⟩
theorem node_any (B : Nat) (c : Cl) (a1 : Option Addr) (c1 : Nat) (ai : Option Addr) (ci : Nat) (ak : Option Addr) (ck : Nat) (w : World) (hc : ClAt B w c a1 ai ak) (hk : c.kids.length ≤ 1000) :
    Calls Tryz.prog 60 #[.agg #[.int .i64 c.kind, .int .i64 c.n, .slice a1 c.kids.length c1, .bool c.nd.leaf, .slice ai c.nd.its.length ci, .slice ak c.nd.kds.length ck]] w fun x w' => NodeSaidB B (nodeC c) w x w' :=
  node_one B c.kind c.n c.kids c.nd a1 c1 ai ci ak ck w hc hk
end Go.Proofs.YtlmgmdnmghgkbaaGreatDoor

/- long: more than is played? -/
namespace Go.Proofs.YtlmgmdnmghgkbaaGreatDoor
open Go.ChangeShapes Go.WideShapes Go.ChangeAt Go.RowKit

def Short (l : List Cl) : Prop := l.length ≤ 100 ∧ ∀ c ∈ l, c.kids.length ≤ 60 ∧ L6.Few c.nd
def LongSaid (l : List Cl) (w : World) (e : Ending) (w' : World) : Prop := ∃ g, e = .returned (.bool g) ∧ (g = false → Short l) ∧ Below w.heap.size w w'
theorem Cls.grow {B : Nat} {w w' : World} {a : Option Addr} {l : List Cl} (h : Cls B w a l) (hb : Below B w w') (hr : ∀ c a1 ai ak, ClAt B w c a1 ai ak → ClAt B w' c a1 ai ak) : Cls B w' a l := by
  rcases h with h | ⟨b, off, e, hbb, hh⟩
  · exact .inl h
  · refine .inr ⟨b, off, e, hbb, fun i c hc => ?_⟩
    obtain ⟨a1, c1, ai, ci, ak, ck, h1, h2⟩ := hh i c hc
    exact ⟨a1, c1, ai, ci, ak, ck, hr c a1 ai ak h1, fun j v hv => cell_base (h2 j v hv) hbb hb⟩
theorem Irow.base {B : Nat} {w w' : World} {a : Option Addr} {l : List Int} (h : Irow w a l) (hu : l = [] ∨ Under B a) (hb : Below B w w') : Irow w' a l := by
  rcases hu with hu | hu
  · exact .inl hu
  rcases h with h | ⟨b, off, e, hh⟩
  · exact .inl h
  · exact .inr ⟨b, off, e, fun i x hx => cell_base (hh i x hx) (show b < B from hu ⟨b, off, none⟩ e) hb⟩
theorem Row.base {β : Type} {sv : β → Value} {B : Nat} {w w' : World} {a : Option Addr} {l : List (ByteArray × β)} (h : L6.Row sv w a l) (hu : l = [] ∨ Under B a) (hb : Below B w w') : L6.Row sv w' a l := by
  rcases hu with hu | hu
  · exact .inl hu
  rcases h with h | ⟨b, off, e, hh⟩
  · exact .inl h
  · exact .inr ⟨b, off, e, fun i x hx => ⟨cell_base (hh i x hx).1 (show b < B from hu ⟨b, off, none⟩ e) hb, cell_base (hh i x hx).2 (show b < B from hu ⟨b, off, none⟩ e) hb⟩⟩
theorem ClAt.base {B : Nat} {w w' : World} {c : Cl} {a1 ai ak : Option Addr} (h : ClAt B w c a1 ai ak) (hb : Below B w w') : ClAt B w' c a1 ai ak := ⟨h.ints.base h.u1 hb, ⟨Row.base h.has.1 h.ui hb, Row.base h.has.2 h.uk hb⟩, h.u1, h.ui, h.uk, h.few, h.n64⟩
theorem Cls.base {B : Nat} {w w' : World} {a : Option Addr} {l : List Cl} (h : Cls B w a l) (hb : Below B w w') : Cls B w' a l := h.grow hb (fun _ _ _ _ hc => hc.base hb)
theorem Cls.at {B : Nat} {w : World} {a : Option Addr} {l : List Cl} (h : Cls B w a l) {k : Nat} (hk : k < l.length) : ∃ b off, a = some ⟨b, off, none⟩ ∧ b < B ∧ ∃ a1 c1 ai ci ak ck, ClAt B w l[k] a1 ai ak ∧ w.cell? ⟨b, off + k * 6, none⟩ = some (.int .i64 l[k].kind) ∧ w.cell? ⟨b, off + k * 6 + 1, none⟩ = some (.int .i64 l[k].n) ∧ w.cell? ⟨b, off + k * 6 + 2, none⟩ = some (.slice a1 l[k].kids.length c1) ∧
    w.cell? ⟨b, off + k * 6 + 3, none⟩ = some (.bool l[k].nd.leaf) ∧ w.cell? ⟨b, off + k * 6 + 4, none⟩ = some (.slice ai l[k].nd.its.length ci) ∧ w.cell? ⟨b, off + k * 6 + 5, none⟩ = some (.slice ak l[k].nd.kds.length ck) := by
  rcases h with rfl | ⟨b, off, e, hbb, hh⟩
  · simp at hk
  · obtain ⟨a1, c1, ai, ci, ak, ck, h1, h2⟩ := hh k l[k] (List.getElem?_eq_getElem hk)
    exact ⟨b, off, e, hbb, a1, c1, ai, ci, ak, ck, h1, h2 0 _ rfl, h2 1 _ rfl, h2 2 _ rfl, h2 3 _ rfl, h2 4 _ rfl, h2 5 _ rfl⟩

set_option maxHeartbeats 2000000 in
set_option maxRecDepth 20000 in
theorem long_any (B : Nat) (l : List Cl) (a : Option Addr) (cap : Nat) (w : World) (hc : Cls B w a l) (hB : B ≤ w.heap.size) (hl : l.length ≤ maxLen) :
    Calls Tryz.prog 13 #[.slice a l.length cap] w fun e w' => LongSaid l w e w' := by
  unfold maxLen at hl
  by_cases h1 : 100 < l.length
  · have h1' : (100 : Int) < (l.length : Int) := by omega
    clear hc
    go_enter Tryz.func13, Tryz.ntmps13
    go_wp2
    go_ret
    exact ⟨true, rfl, (fun h => by cases h), Below.refl _ _⟩
  · have h1' : ¬ (100 : Int) < (l.length : Int) := by omega
    have HC := hide hc
    have HBB := hide hB
    clear hc hB
    go_enter Tryz.func13, Tryz.ntmps13
    go_wp2
    go_loopw [3] (fun t wr => ∃ k : Nat, k ≤ l.length ∧ t = .int .i64 (k : Int) ∧ (∀ j (hj : j < l.length), j < k → l[j].kids.length ≤ 60 ∧ L6.Few l[j].nd) ∧ Below w.heap.size w wr) (fun t _ => l.length - (intOf t).toNat)
    case atStart => exact ⟨0, Nat.zero_le _, rfl, (fun j hj h => absurd h (Nat.not_lt_zero _)), Below.refl _ _⟩
    case round =>
      obtain ⟨k, hk, rfl, hall, hb⟩ := hrel
      have HA := hide hall
      have HB := hide hb
      by_cases hlt : k < l.length
      · obtain ⟨b, off, rfl, hbb, a1, c1, ai, ci, ak, ck, hcl, q0, q1, q2, q3, q4, q5⟩ := ((unhide HC).grow (hb.mono (unhide HBB)) (fun c a1 ai ak h => h.grow hb)).at hlt
        have hlt' : (k : Int) < (l.length : Int) := by omega
        have HCL := hide hcl
        have hfw := hcl.few
        unfold maxLen at hfw
        obtain ⟨C, hC⟩ : ∃ x, x = l[k] := ⟨_, rfl⟩
        rw [← hC] at HCL q2 q3 q4 q5 hfw
        have HCE := hide hC
        clear hall hb hcl q0 q1 hC
        by_cases h60 : 60 < C.kids.length
        · have h60' : (60 : Int) < (C.kids.length : Int) := by omega
          go_wp2
          go_ret
          exact ⟨true, rfl, (fun h => by cases h), unhide HB⟩
        · have h60' : ¬ (60 : Int) < (C.kids.length : Int) := by omega
          go_wp2_with fail
          refine (L6.great_any C.nd ai ak ci ck wr (unhide HCL).has (unhide HCL).few.2.1 (unhide HCL).few.2.2).mono ?_
          rintro e w1 ⟨g, rfl, hg, hb1⟩
          have HG := hide hg
          have HB1 := hide (below_then (unhide HB) hb1)
          clear hg hb1
          cases g with
          | true =>
            go_wp2
            go_ret
            exact ⟨true, rfl, (fun h => by cases h), unhide HB1⟩
          | false =>
            go_wp2
            go_roundw
            case rel =>
              refine ⟨k + 1, by omega, by go_num, fun j hj hjk => ?_, unhide HB1⟩
              by_cases e : j = k
              · subst e
                rw [← unhide HCE]
                exact ⟨by omega, by first | exact unhide HG rfl | exact unhide HG trivial⟩
              · exact unhide HA j hj (by omega)
            case measure => simp [intOf]; omega
      · obtain rfl : k = l.length := by omega
        clear hall hb
        go_wp2
        go_ret
        refine ⟨false, rfl, fun _ => ⟨by omega, fun c hc => ?_⟩, unhide HB⟩
        obtain ⟨j, hj, rfl⟩ := List.getElem_of_mem hc
        exact unhide HA j hj hj
end Go.Proofs.YtlmgmdnmghgkbaaGreatDoor

/- A call on both heaps: they answer alike. -/
namespace Go.Proofs.YtlmgmdnmghgkbaaGreatDoor
open Go.ChangeShapes Go.WideShapes Go.ChangeAt Go.RowKit

/-- both heaps, of the same calls -/
structure Pair (B : Nat) (W w : World) (p d q : Nat) (h : Hp) (c : Nat) (F Fq : List Nat) : Prop where
  heap : IsHeap w p d h c F
  ref : IsRh w q h Fq
  bel : Below B W w
  hF : ∀ x ∈ F, B ≤ x
  hQ : ∀ x ∈ Fq, B ≤ x
  sz : B ≤ w.heap.size
variable {B : Nat} {W w w1 w2 : World} {p d q : Nat} {h h' : Hp} {c c' : Nat} {F Fq : List Nat}
theorem Pair.grow (P : Pair B W w p d q h c F Fq) (hb : Below w.heap.size w w1) : Pair B W w1 p d q h c F Fq :=
  ⟨P.heap.grow hb, P.ref.grow hb, P.bel.trans (hb.mono P.sz), P.hF, P.hQ, Nat.le_trans P.sz hb.size⟩
theorem Pair.mono (P : Pair B W w p d q h c F Fq) (hc : c ≤ c') : Pair B W w p d q h c' F Fq := ⟨P.heap.mono hc, P.ref, P.bel, P.hF, P.hQ, P.sz⟩
theorem HTurned.moves (k : HTurned w w1 p d h c F) : Moves F w w1 := by
  obtain ⟨_, _, k2, _⟩ := k
  exact k2
theorem RhTurned.moves (k : RhTurned w w1 q h F) : Moves F w w1 := by
  obtain ⟨_, _, k2, _⟩ := k
  exact k2
/-- the document's heap behind the program's call -/
theorem Pair.mid (P : Pair B W w p d q h c F Fq) (k1 : HTurned w w1 p d h' c' F) : IsRh w1 q h Fq := P.ref.other P.heap k1.moves
theorem Pair.turn (P : Pair B W w p d q h c F Fq) (k1 : HTurned w w1 p d h' c' F) (k2 : RhTurned w1 w2 q h' Fq) : ∃ F' Fq', Pair B W w2 p d q h' c' F' Fq' := by
  have hm := P.mid k1
  have hb1 := k1.below P.bel P.hF P.sz
  obtain ⟨F1, h1, m1, f1⟩ := k1
  have hs1 : B ≤ w1.heap.size := Nat.le_trans P.sz m1.size
  obtain ⟨F2, h2, m2, f2⟩ := k2
  refine ⟨F1, F2, h1.other hm m2, h2, m2.below hb1 P.hQ hs1, fun x hx => ?_, fun x hx => ?_, Nat.le_trans hs1 m2.size⟩
  · rcases f1 x hx with h3 | h3
    · exact P.hF x h3
    · exact Nat.le_trans P.sz h3
  · rcases f2 x hx with h3 | h3
    · exact P.hQ x h3
    · exact Nat.le_trans hs1 h3
/-- a cell that is none of the heaps' stays -/
theorem cell_mv {fq : List Nat} {a : Addr} {v : Value} (hm : Moves fq w w1) (hc : w.cell? a = some v) (ha : a.block ∉ fq) : w1.cell? a = some v :=
  (World.cell?_of_block (hm.block a.block (World.block_lt_of_cell? _ _ hc) ha)).trans hc

def stepR (h : Hp) (c : Cl) : Hp :=
  if c.kind = 2 then h else if c.kind = 3 then holdR h c.n else if c.kind = 4 then dropR h c.n else if c.kind = 5 then settleM h
  else if c.kind = 6 then { h with dk := L3.powerM h.dk c.n } else (putR h (nodeC c)).2.2
def StepSaid (B : Nat) (W : World) (p d q : Nat) (h' : Hp) (c : Nat) (e : Ending) (w' : World) : Prop := e = .returned (.bool true) ∧ ∃ F' Fq', Pair B W w' p d q h' (c + 2) F' Fq'

set_option maxHeartbeats 4000000 in
set_option maxRecDepth 20000 in
theorem stp3 (n : Int) (kids : List Int) (nd : L6.Nd) (a1 : Option Addr) (c1 : Nat) (ai : Option Addr) (ci : Nat) (ak : Option Addr) (ck : Nat) (w : World) (P : Pair B W w p d q h c F Fq) (hI : L5.I64 n) :
    Calls Tryz.prog 18 #[.pointer (some ⟨p, 0, none⟩), .pointer (some ⟨q, 0, none⟩), .pointer (some ⟨d, 0, none⟩), .agg #[.int .i64 3, .int .i64 n, .slice a1 kids.length c1, .bool nd.leaf, .slice ai nd.its.length ci, .slice ak nd.kds.length ck]] w fun e w' => StepSaid B W p d q (holdR h n) c e w' := by
  have hb0 := below_alloc w (.cells #[.int .i64 3, .int .i64 n, .slice a1 kids.length c1, .bool nd.leaf, .slice ai nd.its.length ci, .slice ak nd.kds.length ck] 45)
  have q1 : (w.alloc (.cells #[.int .i64 3, .int .i64 n, .slice a1 kids.length c1, .bool nd.leaf, .slice ai nd.its.length ci, .slice ak nd.kds.length ck] 45)).cell? ⟨w.heap.size, 1, none⟩ = some (.int .i64 n) := by simp
  have hnb : w.heap.size ∉ F := fun hx => by have := P.heap.lt _ hx; omega
  have hnq : w.heap.size ∉ Fq := fun hx => by have := P.ref.lt _ hx; omega
  have HNB := hide hnb
  have HNQ := hide hnq
  have HI := hide hI
  have HH := hide (P.grow hb0)
  skip
  clear hb0 P hnb hnq hI
  obtain ⟨CB, hCB⟩ : ∃ x, x = w.heap.size := ⟨_, rfl⟩
  go_enter Tryz.func18, Tryz.ntmps18
  go_wp2_with fail
  rw [← hCB] at q1 HNB HNQ ⊢
  clear hCB
  generalize w.alloc (.cells #[.int .i64 3, .int .i64 n, .slice a1 kids.length c1, .bool nd.leaf, .slice ai nd.its.length ci, .slice ak nd.kds.length ck] 45) = w0 at *
  have HH1 : Hid (Pair B W w0.drew p d q h c F Fq) := (unhide HH).grow (below_drew w0)
  go_region_held3 (fun w' => w'.cell? ⟨CB, 1, none⟩ = some (.int .i64 n))
    (first | assumption | exact q1 | exact q2 | exact q3)
    (first
      | (go_at_call 55; refine (hhold_any n (unhide HI) _ (unhide HH1).heap).mono ?_; rintro e w2 ⟨rfl, ht⟩; have q2 := cell_mv ht.moves (show w0.drew.cell? _ = _ from q1) (unhide HNB); have HT2 := hide ht; have HM2 := hide ((unhide HH1).mid ht); clear ht)
      | (go_at_call 56; refine (rhhold_any n (unhide HI) _ (unhide HM2)).mono ?_; rintro e w3 ⟨rfl, ht3⟩; have q3 := cell_mv ht3.moves q2 (unhide HNQ); have HT3 := hide ht3; clear ht3))
  clear q1 q2 q3
  go_wp2
  go_ret
  obtain ⟨F', Fq', k⟩ := (unhide HH1).turn (unhide HT2) (unhide HT3)
  exact ⟨by simp, F', Fq', k.mono (by omega)⟩
set_option maxHeartbeats 4000000 in
set_option maxRecDepth 20000 in
theorem stp4 (n : Int) (kids : List Int) (nd : L6.Nd) (a1 : Option Addr) (c1 : Nat) (ai : Option Addr) (ci : Nat) (ak : Option Addr) (ck : Nat) (w : World) (P : Pair B W w p d q h c F Fq) (hI : L5.I64 n) (hN : h.near) :
    Calls Tryz.prog 18 #[.pointer (some ⟨p, 0, none⟩), .pointer (some ⟨q, 0, none⟩), .pointer (some ⟨d, 0, none⟩), .agg #[.int .i64 4, .int .i64 n, .slice a1 kids.length c1, .bool nd.leaf, .slice ai nd.its.length ci, .slice ak nd.kds.length ck]] w fun e w' => StepSaid B W p d q (dropR h n) c e w' := by
  have hb0 := below_alloc w (.cells #[.int .i64 4, .int .i64 n, .slice a1 kids.length c1, .bool nd.leaf, .slice ai nd.its.length ci, .slice ak nd.kds.length ck] 45)
  have q1 : (w.alloc (.cells #[.int .i64 4, .int .i64 n, .slice a1 kids.length c1, .bool nd.leaf, .slice ai nd.its.length ci, .slice ak nd.kds.length ck] 45)).cell? ⟨w.heap.size, 1, none⟩ = some (.int .i64 n) := by simp
  have hnb : w.heap.size ∉ F := fun hx => by have := P.heap.lt _ hx; omega
  have hnq : w.heap.size ∉ Fq := fun hx => by have := P.ref.lt _ hx; omega
  have HNB := hide hnb
  have HNQ := hide hnq
  have HI := hide hI
  have HH := hide (P.grow hb0)
  have HN := hide hN
  clear hN
  clear hb0 P hnb hnq hI
  obtain ⟨CB, hCB⟩ : ∃ x, x = w.heap.size := ⟨_, rfl⟩
  go_enter Tryz.func18, Tryz.ntmps18
  go_wp2_with fail
  rw [← hCB] at q1 HNB HNQ ⊢
  clear hCB
  generalize w.alloc (.cells #[.int .i64 4, .int .i64 n, .slice a1 kids.length c1, .bool nd.leaf, .slice ai nd.its.length ci, .slice ak nd.kds.length ck] 45) = w0 at *
  have HH1 : Hid (Pair B W w0.drew p d q h c F Fq) := (unhide HH).grow (below_drew w0)
  go_region_held3 (fun w' => w'.cell? ⟨CB, 1, none⟩ = some (.int .i64 n))
    (first | assumption | exact q1 | exact q2 | exact q3)
    (first
      | (go_at_call 31; refine (hdrop_any n (unhide HI) _ (unhide HH1).heap (unhide HN)).mono ?_; rintro e w2 ⟨rfl, ht⟩; have q2 := cell_mv ht.moves (show w0.drew.cell? _ = _ from q1) (unhide HNB); have HT2 := hide ht; have HM2 := hide ((unhide HH1).mid ht); clear ht)
      | (go_at_call 57; refine (rhdrop_any n (unhide HI) _ (unhide HM2) (unhide HN)).mono ?_; rintro e w3 ⟨rfl, ht3⟩; have q3 := cell_mv ht3.moves q2 (unhide HNQ); have HT3 := hide ht3; clear ht3))
  clear q1 q2 q3
  go_wp2
  go_ret
  obtain ⟨F', Fq', k⟩ := (unhide HH1).turn (unhide HT2) (unhide HT3)
  exact ⟨by simp, F', Fq', k.mono (by omega)⟩
set_option maxHeartbeats 4000000 in
set_option maxRecDepth 20000 in
theorem stp5 (n : Int) (kids : List Int) (nd : L6.Nd) (a1 : Option Addr) (c1 : Nat) (ai : Option Addr) (ci : Nat) (ak : Option Addr) (ck : Nat) (w : World) (P : Pair B W w p d q h c F Fq) (hI : L5.I64 n) :
    Calls Tryz.prog 18 #[.pointer (some ⟨p, 0, none⟩), .pointer (some ⟨q, 0, none⟩), .pointer (some ⟨d, 0, none⟩), .agg #[.int .i64 5, .int .i64 n, .slice a1 kids.length c1, .bool nd.leaf, .slice ai nd.its.length ci, .slice ak nd.kds.length ck]] w fun e w' => StepSaid B W p d q (settleM h) c e w' := by
  have hb0 := below_alloc w (.cells #[.int .i64 5, .int .i64 n, .slice a1 kids.length c1, .bool nd.leaf, .slice ai nd.its.length ci, .slice ak nd.kds.length ck] 45)
  have q1 : (w.alloc (.cells #[.int .i64 5, .int .i64 n, .slice a1 kids.length c1, .bool nd.leaf, .slice ai nd.its.length ci, .slice ak nd.kds.length ck] 45)).cell? ⟨w.heap.size, 1, none⟩ = some (.int .i64 n) := by simp
  have hnb : w.heap.size ∉ F := fun hx => by have := P.heap.lt _ hx; omega
  have hnq : w.heap.size ∉ Fq := fun hx => by have := P.ref.lt _ hx; omega
  have HNB := hide hnb
  have HNQ := hide hnq
  have HI := hide hI
  have HH := hide (P.grow hb0)
  skip
  clear hb0 P hnb hnq hI
  obtain ⟨CB, hCB⟩ : ∃ x, x = w.heap.size := ⟨_, rfl⟩
  go_enter Tryz.func18, Tryz.ntmps18
  go_wp2_with fail
  rw [← hCB] at q1 HNB HNQ ⊢
  clear hCB
  generalize w.alloc (.cells #[.int .i64 5, .int .i64 n, .slice a1 kids.length c1, .bool nd.leaf, .slice ai nd.its.length ci, .slice ak nd.kds.length ck] 45) = w0 at *
  go_wp2_with (first
    | (go_at_call 32; refine (hsettle_any _ (unhide HH).heap).mono ?_; rintro e w2 ⟨rfl, ht⟩; have HT2 := hide ht; have HM2 := hide ((unhide HH).mid ht); clear ht)
    | (go_at_call 58; refine (rhsettle_any _ (unhide HM2)).mono ?_; rintro e w3 ⟨rfl, ht3⟩; have HT3 := hide ht3; clear ht3))
  go_ret
  obtain ⟨F', Fq', k⟩ := (unhide HH).turn (unhide HT2) (unhide HT3)
  exact ⟨by simp, F', Fq', k.mono (by omega)⟩
set_option maxHeartbeats 1000000 in
theorem old_power (m : L3.Dk) (x : Int) : (L3.powerM m x).old.length = m.old.length ∧ (L3.powerM m x).op = m.op := by
  unfold L3.powerM
  split
  · exact ⟨rfl, rfl⟩
  · exact ⟨rfl, rfl⟩
theorem RhAt.after {r a g : Nat} {fr : List Nat} {kv : List Value} {m : L3.Dk} (H : RhAt w q r h a g fr kv) (ht : L3.RTurned w w1 r m fr) (hl : m.old.length = h.dk.old.length) {a' : Addr} {v : Value} (hc : w.cell? a' = some v) (ha : a'.block ∉ rfoot q a g fr) : w1.cell? ⟨q, 0, none⟩ = some (.pointer (some ⟨r, 0, none⟩)) ∧ w1.cell? a' = some v := by
  obtain ⟨fr', R3, hm3, _⟩ := H.disk ht hl
  exact ⟨R3.cell0, cell_mv hm3 hc (fun hx => ha (by simp [rfoot, hx]))⟩
theorem hpower_any (x : Int) (hx : L5.I64 x) (w : World) (H : IsHeap w p d h c F) :
    Calls Tryz.prog 40 #[.pointer (some ⟨d, 0, none⟩), .int .i64 x] w fun e w' => e = .returned (.tuple #[]) ∧ HTurned w w' p d { h with dk := L3.powerM h.dk x } c F := by
  obtain ⟨a, b, kb, fd, kf, H, rfl⟩ := H
  refine (L3.power_any x (by unfold L5.I64 at hx; omega) fd w H.dk).mono ?_
  rintro e w1 ⟨rfl, ht⟩
  refine ⟨rfl, ?_⟩
  obtain ⟨fd', h1, h2, h3⟩ := H.disk ht (old_power _ _).1 (Nat.le_refl _)
  refine ⟨_, ⟨a, b, kb, fd', kf, h1, rfl⟩, h2.mono (fun x hx => .inl (by simp [foot, hx])), fun x hx => ?_⟩
  simp only [foot, List.mem_cons] at hx ⊢
  rcases hx with h4 | h4 | h4 | h4 | h4
  · exact .inl (.inl h4)
  · exact .inl (.inr (.inl h4))
  · exact .inl (.inr (.inr (.inl h4)))
  · exact .inl (.inr (.inr (.inr (.inl h4))))
  · rcases h3 x h4 with h5 | h5
    · exact .inl (.inr (.inr (.inr (.inr h5))))
    · exact .inr h5
set_option maxHeartbeats 4000000 in
set_option maxRecDepth 20000 in
theorem stp6 (n : Int) (kids : List Int) (nd : L6.Nd) (a1 : Option Addr) (c1 : Nat) (ai : Option Addr) (ci : Nat) (ak : Option Addr) (ck : Nat) (w : World) (P : Pair B W w p d q h c F Fq) (hI : L5.I64 n) :
    Calls Tryz.prog 18 #[.pointer (some ⟨p, 0, none⟩), .pointer (some ⟨q, 0, none⟩), .pointer (some ⟨d, 0, none⟩), .agg #[.int .i64 6, .int .i64 n, .slice a1 kids.length c1, .bool nd.leaf, .slice ai nd.its.length ci, .slice ak nd.kds.length ck]] w fun e w' => StepSaid B W p d q { h with dk := L3.powerM h.dk n } c e w' := by
  have hb0 := below_alloc w (.cells #[.int .i64 6, .int .i64 n, .slice a1 kids.length c1, .bool nd.leaf, .slice ai nd.its.length ci, .slice ak nd.kds.length ck] 45)
  have q1 : (w.alloc (.cells #[.int .i64 6, .int .i64 n, .slice a1 kids.length c1, .bool nd.leaf, .slice ai nd.its.length ci, .slice ak nd.kds.length ck] 45)).cell? ⟨w.heap.size, 1, none⟩ = some (.int .i64 n) := by simp
  have hnb : w.heap.size ∉ F := fun hx => by have := P.heap.lt _ hx; omega
  have hnq : w.heap.size ∉ Fq := fun hx => by have := P.ref.lt _ hx; omega
  have HNB := hide hnb
  have HNQ := hide hnq
  have HI := hide hI
  have HH := hide (P.grow hb0)
  skip
  clear hb0 P hnb hnq hI
  obtain ⟨CB, hCB⟩ : ∃ x, x = w.heap.size := ⟨_, rfl⟩
  go_enter Tryz.func18, Tryz.ntmps18
  go_wp2_with fail
  rw [← hCB] at q1 HNB HNQ ⊢
  clear hCB
  generalize w.alloc (.cells #[.int .i64 6, .int .i64 n, .slice a1 kids.length c1, .bool nd.leaf, .slice ai nd.its.length ci, .slice ak nd.kds.length ck] 45) = w0 at *
  go_wp2_with (go_at_call 40; refine (hpower_any n (unhide HI) _ (unhide HH).heap).mono ?_; rintro e w2 ⟨rfl, ht⟩; have q2 := cell_mv ht.moves q1 (unhide HNB); have HT2 := hide ht; have hm2 := (unhide HH).mid ht; clear ht)
  obtain ⟨r, a, g, fr, kv, R, rfl⟩ := hm2
  have d0 := R.cell0
  have HR := hide R
  clear R q1
  go_wp2_with fail
  have HRd : Hid (RhAt w2.drew q r h a g fr kv) := (unhide HR).grow (below_drew w2)
  go_region_held3 (fun w' => w'.cell? ⟨q, 0, none⟩ = some (.pointer (some ⟨r, 0, none⟩)) ∧ w'.cell? ⟨CB, 1, none⟩ = some (.int .i64 n))
    (first | assumption | exact ⟨d0, q2⟩ | exact unhide HC3)
    (first
      | (go_at_call 59; go_split_ands; refine (L3.rpower_any n (by have := unhide HI; unfold L5.I64 at this; omega) fr _ (unhide HRd).dk).mono ?_; rintro e w3 ⟨rfl, ht3⟩; have HT3' := hide ((unhide HRd).turnD ht3 (old_power _ _).1); have HC3 := hide (RhAt.after (unhide HRd) ht3 (old_power _ _).1 (show w2.drew.cell? ⟨CB, 1, none⟩ = _ from q2) (unhide HNQ)); clear ht3))
  have HT3 : Hid (RhTurned w2 w3 q { h with dk := L3.powerM h.dk n } (rfoot q a g fr)) := RhTurned.then (L5.Moves.of_below _ (below_drew w2)) (fun x hx => .inl hx) (unhide HT3')
  clear d0 q2 HC3
  go_wp2
  go_ret
  obtain ⟨F', Fq', k⟩ := (unhide HH).turn (unhide HT2) (unhide HT3)
  exact ⟨rfl, F', Fq', k.mono (by omega)⟩
set_option maxHeartbeats 4000000 in
set_option maxRecDepth 20000 in
theorem stp2 (n : Int) (kids : List Int) (nd : L6.Nd) (a1 : Option Addr) (c1 : Nat) (ai : Option Addr) (ci : Nat) (ak : Option Addr) (ck : Nat) (w : World) (P : Pair B W w p d q h c F Fq) (hI : L5.I64 n) (hc : h.dk.op.length ≤ 1000000) (hfit : (getR h n).1.its.length ≤ 1000000 ∧ (getR h n).1.kds.length ≤ 1000000) :
    Calls Tryz.prog 18 #[.pointer (some ⟨p, 0, none⟩), .pointer (some ⟨q, 0, none⟩), .pointer (some ⟨d, 0, none⟩), .agg #[.int .i64 2, .int .i64 n, .slice a1 kids.length c1, .bool nd.leaf, .slice ai nd.its.length ci, .slice ak nd.kds.length ck]] w fun e w' => StepSaid B W p d q h c e w' := by
  have hb0 := below_alloc w (.cells #[.int .i64 2, .int .i64 n, .slice a1 kids.length c1, .bool nd.leaf, .slice ai nd.its.length ci, .slice ak nd.kds.length ck] 45)
  have q1 : (w.alloc (.cells #[.int .i64 2, .int .i64 n, .slice a1 kids.length c1, .bool nd.leaf, .slice ai nd.its.length ci, .slice ak nd.kds.length ck] 45)).cell? ⟨w.heap.size, 1, none⟩ = some (.int .i64 n) := by simp
  have hnb : w.heap.size ∉ F := fun hx => by have := P.heap.lt _ hx; omega
  have hnq : w.heap.size ∉ Fq := fun hx => by have := P.ref.lt _ hx; omega
  have HNB := hide hnb
  have HNQ := hide hnq
  have HI := hide hI
  have HH := hide (P.grow hb0)
  have HC := hide hc
  have HFT := hide hfit
  clear hc hfit
  clear hb0 P hnb hnq hI
  obtain ⟨CB, hCB⟩ : ∃ x, x = w.heap.size := ⟨_, rfl⟩
  go_enter Tryz.func18, Tryz.ntmps18
  go_wp2_with fail
  rw [← hCB] at q1 HNB HNQ ⊢
  clear hCB
  generalize w.alloc (.cells #[.int .i64 2, .int .i64 n, .slice a1 kids.length c1, .bool nd.leaf, .slice ai nd.its.length ci, .slice ak nd.kds.length ck] 45) = w0 at *
  refine (hget_any n (unhide HI) w0 (unhide HH).heap).mono ?_
  rintro e w1 ⟨ai1, ak1, ci1, ck1, rfl, hh1, hb1⟩
  generalize hT : getR h n = T at *
  have HTE := hide hT
  clear hT
  obtain ⟨m, E⟩ := T
  simp only at hh1 HFT ⊢
  have q2 := (hb1.cell (World.block_lt_of_cell? _ _ q1)).trans q1
  have HH1 := hide ((unhide HH).grow hb1)
  have hN1 := L6.Nblk.new w1 m.leaf ai1 ak1 m.its.length ci1 m.kds.length ck1
  have hb2 := below_alloc w1 (.cells #[.bool m.leaf, .slice ai1 m.its.length ci1, .slice ak1 m.kds.length ck1] 43)
  have q3 := (hb2.cell (World.block_lt_of_cell? _ _ q2)).trans q2
  have HH2 := hide ((unhide HH1).grow hb2)
  have HA2 := hide (hh1.grow hb2)
  have HN1 := hide hN1
  clear hb1 hb2 q1 q2 hh1 hN1 HH1 HH
  go_wp2_with fail
  obtain ⟨X, hX⟩ : ∃ x, x = w1.heap.size := ⟨_, rfl⟩
  rw [← hX] at HN1 ⊢
  clear hX
  generalize w1.alloc (.cells #[.bool m.leaf, .slice ai1 m.its.length ci1, .slice ak1 m.kds.length ck1] 43) = w2 at *
  refine (rhget_any n (unhide HI) w2 (unhide HH2).ref (unhide HC)).mono ?_
  rintro e w3 ⟨ai2, ak2, ci2, ck2, hr, hh3, hb3⟩
  rw [unhide HTE] at hr hh3
  subst hr
  have hx3 := (unhide HN1).below hb3
  have HA3 := hide ((unhide HA2).grow hb3)
  have HH3 := hide ((unhide HH2).grow hb3)
  have hN3 := L6.Nblk.new w3 m.leaf ai2 ak2 m.its.length ci2 m.kds.length ck2
  have hb4 := below_alloc w3 (.cells #[.bool m.leaf, .slice ai2 m.its.length ci2, .slice ak2 m.kds.length ck2] 43)
  have hx4 := hx3.below hb4
  have HA4 := hide ((unhide HA3).grow hb4)
  have HC4 := hide (hh3.grow hb4)
  have HH4 := hide ((unhide HH3).grow hb4)
  have x0 := hx4.cell0
  have x1 := hx4.cell1
  have x2 := hx4.cell2
  have y0 := hN3.cell0
  have y1 := hN3.cell1
  have y2 := hN3.cell2
  clear hx3 hx4 hN3 hb3 hb4 hh3 HN1 HA2 HA3 HH2 HH3 q3
  go_wp2_with fail
  obtain ⟨Y, hY⟩ : ∃ x, x = w3.heap.size := ⟨_, rfl⟩
  rw [← hY] at y0 y1 y2 ⊢
  clear hY
  generalize w3.alloc (.cells #[.bool m.leaf, .slice ai2 m.its.length ci2, .slice ak2 m.kds.length ck2] 43) = w4 at *
  go_wp2_with (go_at_call 54; refine (L6.same_any m ai1 ak1 ai2 ak2 ci1 ck1 ci2 ck2 _ (unhide HA4) (unhide HC4) (unhide HFT).1 (unhide HFT).2).mono ?_; rintro e w6 ⟨rfl, hb6⟩; have HH6 := hide ((unhide HH4).grow hb6); clear hb6)
  go_ret
  exact ⟨by simp, F, Fq, (unhide HH6).mono (by omega)⟩
theorem nodeC_few (c : Cl) (hk : c.kids.length ≤ 60) (hf : L6.Few c.nd) : (nodeC c).its.length ≤ 1100 ∧ (nodeC c).kds.length ≤ 1100 := by
  unfold nodeC
  split
  · exact ⟨by show 1 ≤ 1100; omega, by show 0 ≤ 1100; omega⟩
  · split
    · refine ⟨by show 0 ≤ 1100; omega, ?_⟩
      show (innerK c.kids).length ≤ 1100
      rw [innerK_len]
      omega
    · exact ⟨by have := hf.1; omega, by have := hf.2.1; omega⟩
set_option maxHeartbeats 8000000 in
set_option maxRecDepth 20000 in
theorem stpP (K n : Int) (kids : List Int) (nd : L6.Nd) (a1 : Option Addr) (c1 : Nat) (ai : Option Addr) (ci : Nat) (ak : Option Addr) (ck : Nat) (w : World) (P : Pair B W w p d q h c F Fq) (hcW : ClAt B W ⟨K, n, kids, nd⟩ a1 ai ak) (k2 : K ≠ 2) (k3 : K ≠ 3) (k4 : K ≠ 4) (k5 : K ≠ 5) (k6 : K ≠ 6) (hk : kids.length ≤ 60) (hfw : L6.Few nd) (hf : Fine h 1000) (hc9 : c ≤ 999990) :
    Calls Tryz.prog 18 #[.pointer (some ⟨p, 0, none⟩), .pointer (some ⟨q, 0, none⟩), .pointer (some ⟨d, 0, none⟩), .agg #[.int .i64 K, .int .i64 n, .slice a1 kids.length c1, .bool nd.leaf, .slice ai nd.its.length ci, .slice ak nd.kds.length ck]] w fun e w' => StepSaid B W p d q (putR h (nodeC ⟨K, n, kids, nd⟩)).2.2 c e w' := by
  have hb0 := below_alloc w (.cells #[.int .i64 K, .int .i64 n, .slice a1 kids.length c1, .bool nd.leaf, .slice ai nd.its.length ci, .slice ak nd.kds.length ck] 45)
  have q0 : (w.alloc (.cells #[.int .i64 K, .int .i64 n, .slice a1 kids.length c1, .bool nd.leaf, .slice ai nd.its.length ci, .slice ak nd.kds.length ck] 45)).cell? ⟨w.heap.size, 0, none⟩ = some (.int .i64 K) := by simp
  have q1 : (w.alloc (.cells #[.int .i64 K, .int .i64 n, .slice a1 kids.length c1, .bool nd.leaf, .slice ai nd.its.length ci, .slice ak nd.kds.length ck] 45)).cell? ⟨w.heap.size, 1, none⟩ = some (.int .i64 n) := by simp
  have q2 : (w.alloc (.cells #[.int .i64 K, .int .i64 n, .slice a1 kids.length c1, .bool nd.leaf, .slice ai nd.its.length ci, .slice ak nd.kds.length ck] 45)).cell? ⟨w.heap.size, 2, none⟩ = some (.slice a1 kids.length c1) := by simp
  have q3 : (w.alloc (.cells #[.int .i64 K, .int .i64 n, .slice a1 kids.length c1, .bool nd.leaf, .slice ai nd.its.length ci, .slice ak nd.kds.length ck] 45)).cell? ⟨w.heap.size, 3, none⟩ = some (.bool nd.leaf) := by simp
  have q4 : (w.alloc (.cells #[.int .i64 K, .int .i64 n, .slice a1 kids.length c1, .bool nd.leaf, .slice ai nd.its.length ci, .slice ak nd.kds.length ck] 45)).cell? ⟨w.heap.size, 4, none⟩ = some (.slice ai nd.its.length ci) := by simp
  have q5 : (w.alloc (.cells #[.int .i64 K, .int .i64 n, .slice a1 kids.length c1, .bool nd.leaf, .slice ai nd.its.length ci, .slice ak nd.kds.length ck] 45)).cell? ⟨w.heap.size, 5, none⟩ = some (.slice ak nd.kds.length ck) := by simp
  have hnb : w.heap.size ∉ F := fun hx => by have := P.heap.lt _ hx; omega
  have HNB := hide hnb
  have HLE : Hid ((nodeC ⟨K, n, kids, nd⟩).its.length ≤ 1100 ∧ (nodeC ⟨K, n, kids, nd⟩).kds.length ≤ 1100) := nodeC_few ⟨K, n, kids, nd⟩ hk hfw
  have HK : Hid (kids.length ≤ 1000) := by show _ ≤ _; omega
  have HH := hide (P.grow hb0)
  have HCW := hide hcW
  have HFN := hide hf
  have HC9 := hide hc9
  have g2 : (K == 2) = false := beq_eq_false_iff_ne.2 k2
  have g3 : (K == 3) = false := beq_eq_false_iff_ne.2 k3
  have g4 : (K == 4) = false := beq_eq_false_iff_ne.2 k4
  have g5 : (K == 5) = false := beq_eq_false_iff_ne.2 k5
  have g6 : (K == 6) = false := beq_eq_false_iff_ne.2 k6
  clear hb0 P hnb hcW hk hfw hf hc9 k2 k3 k4 k5 k6
  obtain ⟨CB, hCB⟩ : ∃ x, x = w.heap.size := ⟨_, rfl⟩
  obtain ⟨N, hN⟩ : ∃ x, x = nodeC ⟨K, n, kids, nd⟩ := ⟨_, rfl⟩
  rw [← hN] at HLE ⊢
  have HYtlmgmdnmghgkbaaGreatDoor := hide hN
  clear hN
  go_enter Tryz.func18, Tryz.ntmps18
  go_wp2_with fail
  rw [← hCB] at q0 q1 q2 q3 q4 q5 HNB ⊢
  clear hCB
  generalize w.alloc (.cells #[.int .i64 K, .int .i64 n, .slice a1 kids.length c1, .bool nd.leaf, .slice ai nd.its.length ci, .slice ak nd.kds.length ck] 45) = w0 at *
  refine (node_any B ⟨K, n, kids, nd⟩ a1 c1 ai ci ak ck w0 ((unhide HCW).base (unhide HH).bel) (unhide HK)).mono ?_
  rintro e w1 ⟨bi, bk, di, dk, rfl, hh1, hb1, _, _⟩
  rw [← unhide HYtlmgmdnmghgkbaaGreatDoor] at hh1 ⊢
  have HH1 := hide ((unhide HH).grow hb1)
  have HA1 := hide hh1
  have r0 := (hb1.cell (World.block_lt_of_cell? _ _ q0)).trans q0
  have r1 := (hb1.cell (World.block_lt_of_cell? _ _ q1)).trans q1
  have r2 := (hb1.cell (World.block_lt_of_cell? _ _ q2)).trans q2
  have r3 := (hb1.cell (World.block_lt_of_cell? _ _ q3)).trans q3
  have r4 := (hb1.cell (World.block_lt_of_cell? _ _ q4)).trans q4
  have r5 := (hb1.cell (World.block_lt_of_cell? _ _ q5)).trans q5
  clear hh1 hb1 q0 q1 q2 q3 q4 q5 HH
  go_wp2_with fail
  refine (hput_any N bi bk di dk w1 (unhide HH1).heap (unhide HA1) (unhide HLE).1 (unhide HLE).2 (unhide HFN).bare (unhide HC9)).mono ?_
  rintro e w2 ⟨rfl, ht⟩
  have t0 := cell_mv ht.moves r0 (unhide HNB)
  have t1 := cell_mv ht.moves r1 (unhide HNB)
  have t2 := cell_mv ht.moves r2 (unhide HNB)
  have t3 := cell_mv ht.moves r3 (unhide HNB)
  have t4 := cell_mv ht.moves r4 (unhide HNB)
  have t5 := cell_mv ht.moves r5 (unhide HNB)
  have HB2 := hide (ht.below (unhide HH1).bel (unhide HH1).hF (unhide HH1).sz)
  have HM2 := hide ((unhide HH1).mid ht)
  have HT2 := hide ht
  clear ht r0 r1 r2 r3 r4 r5 HA1
  obtain ⟨PN, hPN⟩ : ∃ x, x = (putR h N).1 := ⟨_, rfl⟩
  obtain ⟨PE, hPE⟩ : ∃ x, x = (putR h N).2.1 := ⟨_, rfl⟩
  rw [← hPN, ← hPE]
  have HPN := hide hPN
  have HPE := hide hPE
  clear hPN hPE
  go_wp2_with fail
  refine (node_any B ⟨K, n, kids, nd⟩ a1 c1 ai ci ak ck w2 ((unhide HCW).base (unhide HB2)) (unhide HK)).mono ?_
  rintro e w3 ⟨bi2, bk2, di2, dk2, rfl, hh3, hb3, _, _⟩
  rw [← unhide HYtlmgmdnmghgkbaaGreatDoor] at hh3 ⊢
  have HM3 := hide ((unhide HM2).grow hb3)
  have HA3 := hide hh3
  have HB3 := hide hb3
  clear hh3 hb3 t0 t1 t2 t3 t4 t5
  go_wp2_with fail
  refine (rhput_any N bi2 bk2 di2 dk2 w3 (unhide HM3) (unhide HA3) (unhide HLE).1 (unhide HLE).2 (Nat.le_trans (unhide HFN).few (by omega))).mono ?_
  rintro e w4 ⟨rfl, ht4⟩
  rw [← unhide HPN, ← unhide HPE]
  have HT4 : Hid (RhTurned w2 w4 q (putR h N).2.2 Fq) := RhTurned.then (L5.Moves.of_below _ (unhide HB3)) (fun x hx => .inl hx) ht4
  clear ht4
  go_wp2
  go_ret
  obtain ⟨F', Fq', k⟩ := (unhide HH1).turn (unhide HT2) (unhide HT4)
  exact ⟨by simp, F', Fq', k⟩

end Go.Proofs.YtlmgmdnmghgkbaaGreatDoor

/- Both heaps show the same; one call on both; New's refusals. -/
namespace Go.Proofs.YtlmgmdnmghgkbaaGreatDoor
open Go.ChangeShapes Go.WideShapes Go.ChangeAt Go.RowKit
variable {B : Nat} {W w w1 w2 : World} {p d q : Nat} {h h' : Hp} {c c' : Nat} {F Fq : List Nat}

set_option maxHeartbeats 4000000 in
set_option maxRecDepth 20000 in
theorem samec_any (w : World) (P : Pair B W w p d q h c F Fq) :
    Calls Tryz.prog 19 #[.pointer (some ⟨p, 0, none⟩), .pointer (some ⟨q, 0, none⟩)] w fun e w' => e = .returned (.bool true) ∧ Below w.heap.size w w' := by
  obtain ⟨r, a, g, fr, kv, R, rfl⟩ := P.ref
  have HP0 := hide P.heap
  have HR0 := hide R
  obtain ⟨G, hG⟩ : ∃ x, x = h.gen := ⟨_, rfl⟩
  have c1 := R.cell1
  have c2 := R.cell2
  rw [← hG] at c2
  have HG := hide hG
  have HPd : Hid (IsHeap w.drew p d h c F) := P.heap.grow (below_drew w)
  have HRd : Hid (RhAt w.drew q r h a g fr kv) := R.grow (below_drew w)
  obtain ⟨M, hM⟩ : ∃ x : Int, x = (L5.room h.al : Int) := ⟨_, rfl⟩
  have HM := hide hM
  clear P R hG hM
  go_enter Tryz.func19, Tryz.ntmps19
  go_wp2_with fail
  go_region_held3 (fun w' => w'.cell? ⟨q, 1, none⟩ = some (.pointer (some ⟨a, 0, none⟩)) ∧ w'.cell? ⟨q, 2, none⟩ = some (.int .i64 G))
    (first | assumption | exact ⟨c1, c2⟩ | exact ⟨d1, d2⟩)
    (first
      | (go_at_call 61; go_split_ands; refine (hgen_any _ (unhide HPd)).mono ?_; rintro e w2 ⟨rfl, hw⟩; rw [hw]; clear hw w2; rw [← unhide HG])
      | (go_at_call 33; go_split_ands; refine (hroom_any _ (unhide HPd)).mono ?_; rintro e w3 ⟨rfl, hb3⟩; rw [← unhide HM]; have R3 := (unhide HRd).grow hb3; have d1 := R3.cell1; have d2 : w3.cell? ⟨q, 2, none⟩ = some (.int .i64 G) := (hb3.cell (World.block_lt_of_cell? _ _ (show w.drew.cell? _ = _ from c2))).trans c2; have HR3 := hide R3; have HB3 := hide hb3; clear R3 hb3)
      | (go_at_call 62; go_split_ands; refine (L5.rroom_any _ (unhide HR3).al).mono ?_; rintro e w4 ⟨rfl, hw⟩; rw [hw]; clear hw w4; rw [← unhide HM]))
  all_goals
    clear c1 c2 d1 d2
    go_wp2
    go_loopw [5] (fun t wr => ∃ k : Nat, k ≤ 21 ∧ t = .int .i64 ((k : Int) - 1) ∧ Below w.heap.size w wr) (fun t _ => (20 - intOf t).toNat)
    case atStart => exact ⟨0, by omega, rfl, below_then (below_drew w) (unhide HB3)⟩
    case round =>
      obtain ⟨k, hk, rfl, hb⟩ := hrel
      by_cases hlt : k < 21
      · have hlt' : (k : Int) - 1 < 20 := by omega
        have c1 := ((unhide HR0).grow hb).cell1
        have HPw : Hid (IsHeap wr.drew p d h c F) := ((unhide HP0).grow hb).grow (below_drew wr)
        have HRw : Hid (RhAt wr.drew q r h a g fr kv) := ((unhide HR0).grow hb).grow (below_drew wr)
        have HI : Hid (L5.I64 ((k : Int) - 1)) := by show L5.I64 _; unfold L5.I64; omega
        have HB := hide hb
        obtain ⟨C, hC⟩ : ∃ x : Int, x = (h.cnt ((k : Int) - 1) : Int) := ⟨_, rfl⟩
        have HC := hide hC
        have HC2 : Hid (C = ((L5.cntS (L5.sec 2 h.al ((k : Int) - 1)) : Nat) : Int)) := hC
        obtain ⟨t, ht⟩ : ∃ x : Int, x = (k : Int) - 1 := ⟨_, rfl⟩
        rw [← ht] at HI HC HC2 hlt' ⊢
        have HTT := hide ht
        clear hC hb ht
        go_wp2_with fail
        go_region_held3 (fun w' => w'.cell? ⟨q, 1, none⟩ = some (.pointer (some ⟨a, 0, none⟩)))
          (first | assumption | exact c1 | exact d1)
          (first
            | (go_at_call 39; refine (hcount_any t (unhide HI) _ (unhide HPw)).mono ?_; rintro e w2 ⟨rfl, hw⟩; rw [hw]; clear hw w2; rw [← unhide HC])
            | (go_at_call 63; refine (L5.rcount_any t (unhide HI) _ (unhide HRw).al).mono ?_; rintro e w5 ⟨rfl, hb5⟩; rw [← unhide HC2]; have d1 := (hb5.cell (World.block_lt_of_cell? _ _ (show wr.drew.cell? _ = _ from c1))).trans c1; have HB5 := hide (below_then (below_drew wr) hb5); clear hb5))
        all_goals
          clear c1 d1
          have hw : IntKind.i64.wrap (t + 1) = t + 1 := by have := unhide HTT; rw [IntKind.wrap_i64]; omega
          go_wp2
          go_roundw
          case rel =>
            have := unhide HTT
            exact ⟨k + 1, by omega, by rw [show ((k + 1 : Nat) : Int) - 1 = t + 1 by omega], below_then (unhide HB) (unhide HB5)⟩
          case measure => have := unhide HTT; simp [intOf]; omega
      · obtain rfl : k = 21 := by omega
        go_wp2
        go_ret
        exact ⟨rfl, hb⟩

theorem decodeN_few (S : ByteArray) : (L6.decodeN S).1.its.length ≤ 1100 ∧ (L6.decodeN S).1.kds.length ≤ 1100 := by
  unfold L6.decodeN
  split
  · rename_i h
    exact ⟨L6.readN_its S h.1, L6.readN_kds S h.1⟩
  · exact ⟨Nat.zero_le _, Nat.zero_le _⟩
theorem getR_few (h : Hp) (n : Int) : (getR h n).1.its.length ≤ 1000000 ∧ (getR h n).1.kds.length ≤ 1000000 := by
  have hn : ∀ S : ByteArray, (nodeOf S).1.its.length ≤ 1000000 ∧ (nodeOf S).1.kds.length ≤ 1000000 := by
    intro S
    have := decodeN_few (L4.openR S).2.2.1
    unfold nodeOf
    repeat' split
    all_goals first | exact ⟨Nat.zero_le _, Nat.zero_le _⟩ | exact ⟨by simp only; omega, by simp only; omega⟩
  unfold getR fetchM
  repeat' split
  all_goals first | exact ⟨Nat.zero_le _, Nat.zero_le _⟩ | exact hn _
theorem step_any (C : Cl) (a1 : Option Addr) (c1 : Nat) (ai : Option Addr) (ci : Nat) (ak : Option Addr) (ck : Nat) (w : World) (P : Pair B W w p d q h c F Fq) (hcW : ClAt B W C a1 ai ak) (hk : C.kids.length ≤ 60) (hfw : L6.Few C.nd) (hf : Fine h 1000) (hc9 : c ≤ 999990) :
    Calls Tryz.prog 18 #[.pointer (some ⟨p, 0, none⟩), .pointer (some ⟨q, 0, none⟩), .pointer (some ⟨d, 0, none⟩), .agg #[.int .i64 C.kind, .int .i64 C.n, .slice a1 C.kids.length c1, .bool C.nd.leaf, .slice ai C.nd.its.length ci, .slice ak C.nd.kds.length ck]] w fun e w' => StepSaid B W p d q (stepR h C) c e w' := by
  have hI := hcW.n64.1
  obtain ⟨K, n, kids, nd⟩ := C
  simp only at hk hfw hI ⊢
  unfold stepR
  simp only
  by_cases k2 : K = 2
  · subst k2
    rw [if_pos rfl]
    exact stp2 n kids nd a1 c1 ai ci ak ck w P hI (Nat.le_trans hf.few (by omega)) (getR_few h n)
  rw [if_neg k2]
  by_cases k3 : K = 3
  · subst k3
    rw [if_pos rfl]
    exact stp3 n kids nd a1 c1 ai ci ak ck w P hI
  rw [if_neg k3]
  by_cases k4 : K = 4
  · subst k4
    rw [if_pos rfl]
    exact stp4 n kids nd a1 c1 ai ci ak ck w P hI hf.near
  rw [if_neg k4]
  by_cases k5 : K = 5
  · subst k5
    rw [if_pos rfl]
    exact stp5 n kids nd a1 c1 ai ci ak ck w P hI
  rw [if_neg k5]
  by_cases k6 : K = 6
  · subst k6
    rw [if_pos rfl]
    exact stp6 n kids nd a1 c1 ai ci ak ck w P hI
  rw [if_neg k6]
  exact stpP K n kids nd a1 c1 ai ci ak ck w P hcW k2 k3 k4 k5 k6 hk hfw hf hc9
theorem fine_step {h : Hp} {t : Nat} (hf : Fine h t) (C : Cl) : Fine (stepR h C) (t + 1) := by
  have h0 : ∀ {h' : Hp}, Fine h' t → Fine h' (t + 1) := fun hf => ⟨hf.bare, hf.near, Nat.le_succ_of_le hf.few⟩
  unfold stepR
  split
  · exact h0 hf
  split
  · exact h0 (hf.hold _)
  split
  · exact h0 (hf.drop _)
  split
  · exact h0 hf.settle
  split
  · exact h0 (hf.power _ (Nat.le_of_eq (congrArg List.length (old_power _ _).2)))
  exact hf.put _

set_option maxHeartbeats 1000000 in
set_option maxRecDepth 20000 in
theorem rhnew_arg {r : Nat} (g : Int) (w : World) (h : g < 0 ∨ 1152921504606846976 < g) :
    Calls Tryz.prog 17 #[.pointer (some ⟨r, 0, none⟩), .int .i64 g] w fun e w' => e = .returned (.tuple #[.pointer none, .int .i64 1]) ∧ w' = w := by
  by_cases h1 : g < 0
  · go_enter Tryz.func17, Tryz.ntmps17
    go_wp2
    go_ret2
    exact ⟨rfl, rfl⟩
  · have h2 : 1152921504606846976 < g := by omega
    clear h
    go_enter Tryz.func17, Tryz.ntmps17
    go_wp2
    go_ret2
    exact ⟨rfl, rfl⟩
set_option maxHeartbeats 1000000 in
set_option maxRecDepth 20000 in
theorem rhnew_small {r : Nat} {m : L3.Dk} {fr : List Nat} (g : Int) (w : World) (H : L3.IsRef w r m fr) (h1 : ¬ g < 0) (h2 : ¬ 1152921504606846976 < g) (h3 : m.old.length < 8) :
    Calls Tryz.prog 17 #[.pointer (some ⟨r, 0, none⟩), .int .i64 g] w fun e w' => e = .returned (.tuple #[.pointer none, .int .i64 100]) ∧ w' = w := by
  obtain ⟨ov, pv, H, rfl⟩ := H
  have h4 : (m.old.length : Int) < 8 := by omega
  have c0 := H.cell0
  obtain ⟨a0, cap0, rfl⟩ := L3.ownsRow_form H.old
  clear H h3
  go_enter Tryz.func17, Tryz.ntmps17
  go_wp2
  go_ret2
  exact ⟨rfl, rfl⟩
/-- the document's new heap, beside its disk -/
theorem rh_new {w w' : World} {r : Nat} {m : L3.Dk} {fr : List Nat} {g : Int} {p a b : Nat} (H : L3.IsRef w r m fr) (hT : L4.Tab w) (hp : ∀ x ∈ fr, 0 < x) (h0 : 0 < w.heap.size) (hg : ¬ g < 0) (hg2 : ¬ 1152921504606846976 < g) (hm : 8 ≤ m.old.length)
    (ha : L5.RefAt w' a b 2 (L5.newM 2 m.old.length)) (hq : w'.heap[p]? = some (.cells (.pointer (some ⟨r, 0, none⟩) :: .pointer (some ⟨a, 0, none⟩) :: .int .i64 g :: kz).toArray 120 (0, 0))) (hb : Below w.heap.size w w') (l1 : w.heap.size ≤ p) (l2 : w.heap.size ≤ a) (l3 : w.heap.size ≤ b) : IsRh w' p (newH m g) (rfoot p a b fr) := by
  refine ⟨r, a, b, fr, kz, ⟨hq, List.length_replicate, fun i v hv => ?_, ha, H.grow hb, ⟨by show 0 ≤ g; omega, by show g ≤ _; omega⟩, ?_, tab_keep hT (L5.Moves.of_below [] hb) List.not_mem_nil, by omega, by omega, by omega, hp⟩, rfl⟩
  · unfold kz at hv
    rw [List.getElem?_replicate] at hv
    split at hv
    · cases hv
      exact Ints.nil _
    · cases hv
  · show 2 + (L5.newM 2 m.old.length).length = m.old.length
    unfold L5.newM
    rw [List.length_replicate]
    omega
theorem fine_new (m : L3.Dk) (g : Int) (h : m.op = []) : Fine (newH m g) 0 := ⟨fun _ _ => rfl, fun q x hx => absurd hx List.not_mem_nil, by show m.op.length ≤ 0; rw [h]; exact Nat.le_refl _⟩
end Go.Proofs.YtlmgmdnmghgkbaaGreatDoor

/- Whatever is called in whatever order, a heap answers as the document says. -/
namespace Go.Proofs.YtlmgmdnmghgkbaaGreatDoor
open Go.ChangeShapes Go.WideShapes Go.ChangeAt Go.RowKit

set_option maxHeartbeats 4000000 in
set_option maxRecDepth 20000 in
theorem plays_walk (s g : Int) (l : List Cl) (a : Option Addr) (cap : Nat) (w : World) (hT : L4.Tab w) (hl : Cls w.heap.size w a l) (hml : l.length ≤ maxLen) :
    Calls Tryz.prog 3 #[.int .i64 s, .int .i64 g, .slice a l.length cap] w fun e w' => e = .returned (.bool true) ∧ Below w.heap.size w w' := by
  have HT := hide hT
  have HLS := hide hl
  have HML := hide hml
  have hsz : 0 < w.heap.size := World.block_lt_of_cell? w ⟨0, 0, none⟩ (hT 0 (by omega))
  have HSZ := hide hsz
  clear hT hl hml hsz
  go_enter Tryz.func3, Tryz.ntmps3
  go_wp2_with (go_at_call 12; refine (awake_any _ (unhide HT)).mono ?_; rintro e w1 ⟨rfl, hb⟩; have HB1 := hide hb; clear hb)
  refine (long_any w.heap.size l a cap w1 ((unhide HLS).base (unhide HB1)) (unhide HB1).size (unhide HML)).mono ?_
  rintro e w2 ⟨gr, rfl, hsh, hb⟩
  have HSH := hide hsh
  have HB2 := hide (below_then (unhide HB1) hb)
  clear hsh hb
  cases gr with
  | true =>
    go_wp2
    go_ret
    exact ⟨rfl, unhide HB2⟩
  | false =>
    have HS : Hid (Short l) := by first | exact unhide HSH rfl | exact unhide HSH trivial
    by_cases h1 : s < 1
    · go_wp2
      go_ret
      exact ⟨rfl, unhide HB2⟩
    by_cases h16 : 16 < s
    · go_wp2
      go_ret
      exact ⟨rfl, unhide HB2⟩
    obtain ⟨n, rfl⟩ : ∃ n : Nat, s = (n : Int) := ⟨s.toNat, by omega⟩
    have hn1 : 1 ≤ n := by omega
    have hn16 : n ≤ 16 := by omega
    have HN := hide (And.intro hn1 hn16)
    clear hn1 hn16
    go_wp2_with (first
      | (go_at_call 14; refine (L3.new_any (n : Int) _ (by have := unhide HN; omega) (by have := unhide HN; omega)).mono ?_; rintro e w3 ⟨d, fd, rfl, hd, hb3, hf3⟩; have HD := hide (And.intro hd hf3); have HB3 := hide (below_then (unhide HB2) hb3); have HZ3 := hide (unhide HB2).size; clear hd hb3 hf3)
      | (go_at_call 15; refine (L3.rnew_any n _ (by have := unhide HN; omega) (by have := unhide HN; omega)).mono ?_; rintro e w4 ⟨r, fr, rfl, hr, hb4, hf4⟩; have HR := hide (And.intro hr hf4); have HD4 := hide ((unhide HD).1.grow hb4); have HB4 := hide (below_then (unhide HB3) hb4); clear hr hb4 hf4))
    by_cases hg : g < 0 ∨ 1152921504606846976 < g
    · have HG := hide hg
      clear hg
      go_wp2_with (first
        | (go_at_call 16; refine (hnew_arg g _ (unhide HG)).mono ?_; rintro e w5 ⟨rfl, hw⟩; rw [hw]; clear hw w5)
        | (go_at_call 17; refine (rhnew_arg g _ (unhide HG)).mono ?_; rintro e w5 ⟨rfl, hw⟩; rw [hw]; clear hw w5))
      go_ret
      exact ⟨rfl, unhide HB4⟩
    have HG0 : Hid (0 ≤ g ∧ g ≤ 1152921504606846976) := ⟨by omega, by omega⟩
    clear hg
    by_cases h8 : n < 8
    · have H8 := hide h8
      clear h8
      go_wp2_with (first
        | (go_at_call 16; refine (hnew_small g _ (unhide HD4) (by have := unhide HG0; omega) (by have := unhide HG0; omega) (by rw [show ((n : Int)).toNat = n from rfl, newM_len]; exact unhide H8)).mono ?_; rintro e w5 ⟨rfl, hw⟩; rw [hw]; clear hw w5)
        | (go_at_call 17; refine (rhnew_small g _ (unhide HR).1 (by have := unhide HG0; omega) (by have := unhide HG0; omega) (by rw [newM_len]; exact unhide H8)).mono ?_; rintro e w5 ⟨rfl, hw⟩; rw [hw]; clear hw w5))
      go_ret
      exact ⟨rfl, unhide HB4⟩
    have H8 : Hid (8 ≤ n) := by show 8 ≤ n; omega
    clear h8
    go_wp2_with (first
      | (go_at_call 16; refine (hnew_ok g _ (unhide HD4) (tab_keep (unhide HT) (L5.Moves.of_below [] (unhide HB4)) List.not_mem_nil) (fun x hx => by have := (unhide HD).2 x hx; have := unhide HSZ; have := unhide HZ3; omega) (by have := unhide HG0; omega) (by have := unhide HG0; omega) (by rw [show ((n : Int)).toNat = n from rfl, newM_len]; have := unhide H8; omega)).mono ?_; rintro e w5 ⟨p, F, rfl, hp, hb5, hf5⟩; have HP := hide hp; have HF5 := hide hf5; have HR5 := hide ((unhide HR).1.grow hb5); have HB5 := hide (below_then (unhide HB4) hb5); clear hp hb5 hf5)
      | (go_at_call 17; refine (rhnew_ok g _ (unhide HR5) (by have := unhide HG0; omega) (by have := unhide HG0; omega) (by rw [newM_len]; have := unhide H8; omega)).mono ?_; rintro e w6 ⟨q, ra, rb, rfl, ha, hq, hb6, lq, la, lb⟩; have HX6 := hide (And.intro ha (And.intro hq (And.intro hb6 (And.intro lq (And.intro la lb))))); have HP6 := hide ((unhide HP).grow hb6); have HB6 := hide (below_then (unhide HB5) hb6); clear ha hq hb6 lq la lb))
    have hPair : Pair w.heap.size w w6 p d q (newH (L3.newM n) g) 0 F (rfoot q ra rb fr) := by
      obtain ⟨ha, hq, hb6, lq, la, lb⟩ := unhide HX6
      have h5 := (unhide HB5).size
      have hfr : ∀ x ∈ fr, w.heap.size ≤ x := fun x hx => by have := (unhide HR).2 x hx; have := (unhide HB3).size; omega
      have hsz := unhide HSZ
      refine ⟨unhide HP6, ?_, unhide HB6, fun x hx => ?_, fun x hx => ?_, (unhide HB6).size⟩
      · refine rh_new (unhide HR5) (tab_keep (unhide HT) (L5.Moves.of_below [] (unhide HB5)) List.not_mem_nil) (fun x hx => by have := hfr x hx; omega) (by omega) (by have := unhide HG0; omega) (by have := unhide HG0; omega) (by rw [newM_len]; have := unhide H8; omega) ha hq hb6 lq la lb
      · rcases unhide HF5 x hx with h1 | h1
        · have := (unhide HD).2 x h1; have := unhide HZ3; omega
        · have := (unhide HB4).size; omega
      · simp only [rfoot, List.mem_cons] at hx
        rcases hx with rfl | rfl | rfl | hx
        · omega
        · omega
        · omega
        · exact hfr x hx
    have hfine : Fine (newH (L3.newM n) g) 0 := fine_new _ _ rfl
    have HPA := hide hPair
    have HFI := hide hfine
    generalize newH (L3.newM n) g = h0 at *
    generalize rfoot q ra rb fr = Fq at *
    clear hPair hfine HX6 HP6 HP HR5 HR HD HD4 HF5 HB3 HB4 HB5 HB6
    have hlen := (unhide HS).1
    go_wp2_with fail
    go_loopw [15] (fun t wr => ∃ (k : Nat) (hk : Hp) (c : Nat) (F1 F2 : List Nat), k ≤ l.length ∧ t = .int .i64 (k : Int) ∧ Pair w.heap.size w wr p d q hk c F1 F2 ∧ Fine hk k ∧ c ≤ 2 * k) (fun t _ => l.length - (intOf t).toNat)
    case atStart => exact ⟨0, h0, 0, F, Fq, Nat.zero_le _, rfl, unhide HPA, unhide HFI, Nat.zero_le _⟩
    case round =>
      clear HPA HFI
      obtain ⟨k, hk, c, F1, F2, hkl, rfl, hP, hF, hc⟩ := hrel
      by_cases hlt : k < l.length
      · obtain ⟨b, off, rfl, hbb, a1, c1, ai, ci, ak, ck, hcl, q0, q1, q2, q3, q4, q5⟩ := ((unhide HLS).base hP.bel).at hlt
        obtain ⟨b', off', e', _, a1', c1', ai', ci', ak', ck', hclW, p0, p1, p2, p3, p4, p5⟩ := (unhide HLS).at hlt
        have hlt' : (k : Int) < (l.length : Int) := by omega
        have hsh := (unhide HS).2 _ (List.getElem_mem hlt)
        cases e'
        have hcell : ∀ {j : Nat} {u v : Value}, w.cell? ⟨b, j, none⟩ = some u → wr.cell? ⟨b, j, none⟩ = some v → u = v := by
          intro j u v h1 h2
          have := (hP.bel.cell (p := ⟨b, j, none⟩) hbb).trans h1
          rw [h2] at this
          exact (Option.some.inj this).symm
        have e2 := hcell p2 q2
        have e4 := hcell p4 q4
        have e5 := hcell p5 q5
        cases e2
        cases e4
        cases e5
        have HCW := hide hclW
        have HP := hide hP
        have HFN := hide hF
        have HCC := hide hc
        have HSH := hide hsh
        obtain ⟨C, hC⟩ : ∃ x, x = l[k] := ⟨_, rfl⟩
        rw [← hC] at HCW HSH q0 q1 q2 q3 q4 q5
        clear hcl hclW hP hF hc hsh hC hcell p0 p1 p2 p3 p4 p5
        go_wp2_with (first
          | (go_at_call 18; refine (step_any C a1 c1 ai ci ak ck _ (unhide HP) (unhide HCW) (unhide HSH).1 (unhide HSH).2 ⟨(unhide HFN).bare, (unhide HFN).near, Nat.le_trans (unhide HFN).few (by omega)⟩ (by have := unhide HCC; omega)).mono ?_; rintro e w7 ⟨rfl, F', Fq', h7⟩; have HP7 := hide h7; clear h7)
          | (go_at_call 19; refine (samec_any _ (unhide HP7)).mono ?_; rintro e w8 ⟨rfl, hb8⟩; have HP8 := hide ((unhide HP7).grow hb8); clear hb8))
        go_roundw
        case rel => exact ⟨k + 1, _, c + 2, F', Fq', by omega, by go_num, unhide HP8, fine_step (unhide HFN) C, by have := unhide HCC; omega⟩
        case measure => simp [intOf]; omega
      · obtain rfl : k = l.length := by omega
        have HB := hide hP.bel
        clear hP hF hc
        go_wp2
        go_ret
        exact ⟨rfl, unhide HB⟩
end Go.Proofs.YtlmgmdnmghgkbaaGreatDoor
