/- Texts that the proof needs, one behind the other. -/
import Derived.Test.YtdelobaiicoogaaGreatDoorMas
import Derived.Test.YtdelobaiicoogaaGreatDoorMah
import Derived.Lib.AppendZeros
/- Drop: a closure that calls itself. -/
namespace Go.Proofs.YtdelobaiicoogaaGreatDoor
open Go.ChangeShapes Go.WideShapes Go.ChangeAt Go.RowKit
variable {w w' : World} {p d : Nat} {h : Hp} {c : Nat} {F : List Nat} {a b kb : Nat} {fd : List Nat} {kf : Nat → Option Value}

theorem Ints.len {v : Value} {l : List Int} (h : Ints w v l) : l.length ≤ maxLen := by
  rcases h.2 with ⟨_, h0⟩ | ⟨g, cap, cur, rfl, _, hg, hc, hm, _⟩
  · rw [h0]; exact Nat.zero_le _
  · omega
/-- kids are places -/
def Hp.near (h : Hp) : Prop := ∀ q, ∀ x ∈ h.kids q, 2 ≤ x ∧ x < 4096
theorem near_setK (hn : h.near) (q : Nat) (l : List L5.St) : Hp.near { h with al := l, kids := setK h.kids q [] } := by
  intro i x hx
  simp only [setK] at hx
  split at hx
  · simp at hx
  · exact hn i x hx
theorem near_dropH (f : Nat) : ∀ (h : Hp) (q : Int), h.near → (dropH f h q).near := by
  induction f with
  | zero => intro h q hn; exact hn
  | succ f ih =>
    intro h q hn
    have hf : ∀ (ks : List Int) (h : Hp), h.near → (ks.foldl (dropH f) h).near := by
      intro ks
      induction ks with
      | nil => intro h hn; exact hn
      | cons k r ihr => intro h hn; exact ihr _ (ih h k hn)
    unfold dropH
    split
    · exact hn
    · split
      · exact hn
      · exact hf _ _ (near_setK hn _ _)
theorem near_fold (f : Nat) : ∀ (ks : List Int) (h : Hp), h.near → (ks.foldl (dropH f) h).near
  | [], _, hn => hn
  | k :: r, h, hn => near_fold f r _ (near_dropH f h k hn)
theorem held_fold (f : Nat) : ∀ (ks : List Int) (h : Hp), heldL (ks.foldl (dropH f) h).al ≤ heldL h.al
  | [], _ => Nat.le_refl _
  | k :: r, h => Nat.le_trans (held_fold f r _) (held_dropH f h k)
theorem dropE_zero (l : List L5.St) (q : Int) (hz : cntL l q ≠ 0) : L5.dropE 2 l q = 0 := by
  unfold L5.dropE
  exact if_neg hz

/-- the closure that drops, where its two variables stand -/
def clos (c1 c2 : Nat) : Value := .func (.func 158) #[] #[.pointer (some ⟨c1, 0, none⟩), .pointer (some ⟨c2, 0, none⟩)]

set_option maxHeartbeats 4000000 in
set_option maxRecDepth 20000 in
theorem dclos (f : Nat) : ∀ (h : Hp) (q : Int) (c1 c2 : Nat) (F : List Nat) (w : World), IsHeap w p d h c F → heldL h.al < f → L5.I64 q → h.near → w.cell? ⟨c1, 0, none⟩ = some (.pointer (some ⟨p, 0, none⟩)) → w.cell? ⟨c2, 0, none⟩ = some (clos c1 c2) → c1 ∉ F → c2 ∉ F →
    Calls Tryz.prog 158 #[.int .i64 q, .pointer (some ⟨c1, 0, none⟩), .pointer (some ⟨c2, 0, none⟩)] w fun e w' => e = .returned (.int .i64 (L5.dropE 2 h.al q)) ∧ HTurned w w' p d (dropH f h q) c F := by
  induction f with
  | zero => intro h q c1 c2 F w H hf; omega
  | succ f ih =>
  intro h q c1 c2 F w H hf hq hnear k1 k2 hc1 hc2
  have HIH := hide ih
  clear ih
  obtain ⟨a, b, kb, fd, kf, H, rfl⟩ := H
  have p0 := H.cell0
  have p2 := H.cell2
  have HH0 := hide H
  have HH : Hid (HeapAt w.drew p d h c a b kb fd kf) := H.grow (below_drew w)
  have HG := hide (gen64 H)
  have HQ := hide hq
  have HN := hide hnear
  have HF := hide hf
  have HC1 := hide hc1
  have HC2 := hide hc2
  have HCB : Hid (c1 ∉ [b]) := by intro hx; simp at hx; exact hc1 (by simp [foot, hx])
  have HDB : Hid (c2 ∉ [b]) := by intro hx; simp at hx; exact hc2 (by simp [foot, hx])
  clear H hf hq hnear hc1 hc2
  by_cases hz : cntL h.al q = 0
  · have hE : L5.dropE 2 h.al q = 51 := by unfold L5.dropE; exact if_pos hz
    have HE := hide hE
    have HZ := hide hz
    have hD : dropH (f + 1) h q = h := by unfold dropH; exact if_pos hz
    have HD := hide hD
    clear hE hz hD
    go_enter Tryz.func158, Tryz.ntmps158
    go_wp2_with fail
    go_region_held3 (fun w' => w'.cell? ⟨c1, 0, none⟩ = some (.pointer (some ⟨p, 0, none⟩)) ∧ w'.cell? ⟨p, 0, none⟩ = some (.pointer (some ⟨a, 0, none⟩)) ∧ w'.cell? ⟨p, 2, none⟩ = some (.int .i64 h.gen))
    (first | assumption | exact ⟨k1, p0, p2⟩ | exact ⟨m1, r0, r2⟩)
    (first
      | (go_at_call 62; go_split_ands; refine (L5.drop_any q h.gen _ (unhide HH).al (unhide HQ) (unhide HG)).mono ?_; rintro e w2 ⟨rfl, ha, hm⟩; rw [unhide HE]; have H2 := (unhide HH).alloc hm ha (length_drop _ _ _); have r0 := H2.cell0; have r2 : w2.cell? ⟨p, 2, none⟩ = some (.int .i64 h.gen) := H2.cell2; have r3 := H2.cell3; have m1 := cell_moves hm (show w.drew.cell? _ = _ from k1) (unhide HCB); have m2 := cell_moves hm (show w.drew.cell? _ = _ from k2) (unhide HDB); have HH2 := hide H2; have HM2 := hide hm; clear ha hm H2))
    clear r0 r2 r3 m1 m2
    go_wp2
    go_ret
    rw [unhide HD, unhide HE]
    refine ⟨rfl, _, ⟨a, b, kb, fd, kf, ?_, rfl⟩, ((L5.Moves.of_below _ (below_drew w)).trans (unhide HM2) (fun x hx => .inl (by simp at hx; simp [foot, hx]))), fun x hx => .inl hx⟩
    have h2 := unhide HH2
    rw [drop_none _ _ _ (unhide HZ)] at h2
    exact h2
  · have hE := dropE_zero h.al q hz
    have HE := hide hE
    have HZ := hide hz
    clear hE
    by_cases hz2 : 0 < cntL (L5.dropM 2 h.al q h.gen) q
    · have hD : dropH (f + 1) h q = { h with al := L5.dropM 2 h.al q h.gen } := by unfold dropH; rw [if_neg (show ¬ h.cnt q = 0 from hz), if_pos hz2]
      have HD := hide hD
      obtain ⟨C, hC⟩ : ∃ x : Int, x = ((L5.cntS (L5.sec 2 (L5.dropM 2 h.al q h.gen) q) : Nat) : Int) := ⟨_, rfl⟩
      have hC0 : 0 < C := by rw [hC]; have : 0 < L5.cntS (L5.sec 2 (L5.dropM 2 h.al q h.gen) q) := hz2; omega
      have HC := hide hC
      clear hz hz2 hD hC
      go_enter Tryz.func158, Tryz.ntmps158
      go_wp2_with fail
      go_region_held3 (fun w' => w'.cell? ⟨c1, 0, none⟩ = some (.pointer (some ⟨p, 0, none⟩)) ∧ w'.cell? ⟨p, 0, none⟩ = some (.pointer (some ⟨a, 0, none⟩)) ∧ w'.cell? ⟨p, 2, none⟩ = some (.int .i64 h.gen))
    (first | assumption | exact ⟨k1, p0, p2⟩ | exact ⟨m1, r0, r2⟩)
    (first
      | (go_at_call 62; go_split_ands; refine (L5.drop_any q h.gen _ (unhide HH).al (unhide HQ) (unhide HG)).mono ?_; rintro e w2 ⟨rfl, ha, hm⟩; rw [unhide HE]; have H2 := (unhide HH).alloc hm ha (length_drop _ _ _); have r0 := H2.cell0; have r2 : w2.cell? ⟨p, 2, none⟩ = some (.int .i64 h.gen) := H2.cell2; have r3 := H2.cell3; have m1 := cell_moves hm (show w.drew.cell? _ = _ from k1) (unhide HCB); have m2 := cell_moves hm (show w.drew.cell? _ = _ from k2) (unhide HDB); have HH2 := hide H2; have HM2 := hide hm; clear ha hm H2))
      go_wp2_with (go_at_call 58; refine (L5.count_any q (unhide HQ) _ (unhide HH2).al).mono ?_; rintro e w3 ⟨rfl, hw⟩; rw [hw]; clear hw w3; rw [← unhide HC])
      go_ret
      rw [unhide HD, unhide HE]
      exact ⟨rfl, _, ⟨a, b, kb, fd, kf, unhide HH2, rfl⟩, ((L5.Moves.of_below _ (below_drew w)).trans (unhide HM2) (fun x hx => .inl (by simp at hx; simp [foot, hx]))), fun x hx => .inl hx⟩
    · have hC0 : ((L5.cntS (L5.sec 2 (L5.dropM 2 h.al q h.gen) q) : Nat) : Int) = 0 := by have : ¬ 0 < L5.cntS (L5.sec 2 (L5.dropM 2 h.al q h.gen) q) := hz2; omega
      have hD : dropH (f + 1) h q = (h.kids q.toNat).foldl (dropH f) { h with al := L5.dropM 2 h.al q h.gen, kids := setK h.kids q.toNat [] } := by rw [dropH, if_neg (show ¬ h.cnt q = 0 from hz), if_neg hz2]
      have HD := hide hD
      have HC := hide hC0
      have HZ2 : Hid (cntL (L5.dropM 2 h.al q h.gen) q = 0) := by have : ¬ 0 < cntL (L5.dropM 2 h.al q h.gen) q := hz2; show _ = _; omega
      have hin := cnt_in (l := h.al) (p := q) (by omega)
      have hfew := (unhide HH).al.ok.few
      have hq0 : 2 ≤ q ∧ q < 4096 := by unfold L5.In at hin; omega
      have HQ0 := hide hq0
      clear hz hz2 hD hC0 hin hfew hq0
      go_enter Tryz.func158, Tryz.ntmps158
      go_wp2_with fail
      go_region_held3 (fun w' => w'.cell? ⟨c1, 0, none⟩ = some (.pointer (some ⟨p, 0, none⟩)) ∧ w'.cell? ⟨p, 0, none⟩ = some (.pointer (some ⟨a, 0, none⟩)) ∧ w'.cell? ⟨p, 2, none⟩ = some (.int .i64 h.gen))
    (first | assumption | exact ⟨k1, p0, p2⟩ | exact ⟨m1, r0, r2⟩)
    (first
      | (go_at_call 62; go_split_ands; refine (L5.drop_any q h.gen _ (unhide HH).al (unhide HQ) (unhide HG)).mono ?_; rintro e w2 ⟨rfl, ha, hm⟩; rw [unhide HE]; have H2 := (unhide HH).alloc hm ha (length_drop _ _ _); have r0 := H2.cell0; have r2 : w2.cell? ⟨p, 2, none⟩ = some (.int .i64 h.gen) := H2.cell2; have r3 := H2.cell3; have m1 := cell_moves hm (show w.drew.cell? _ = _ from k1) (unhide HCB); have m2 := cell_moves hm (show w.drew.cell? _ = _ from k2) (unhide HDB); have HH2 := hide H2; have HM2 := hide hm; clear ha hm H2))
      have hlk := (unhide HH2).km.look slR_apart Tryz.underlying84 (zero39 w2) rfl (n := q) (by have := unhide HQ0; omega) (by have := unhide HQ0; omega)
      have hkid := ((unhide HH2).kid q.toNat (by have := unhide HQ0; omega)).get
      obtain ⟨v, hv⟩ : ∃ x, x = (kf q.toNat).getD (.slice none 0 0) := ⟨_, rfl⟩
      rw [← hv] at hlk hkid
      obtain ⟨a0, cap0, rfl⟩ := hkid.form
      have HKID := hide hkid
      clear hv hkid
      go_wp2_with (first
        | (go_at_call 58; refine (L5.count_any q (unhide HQ) _ (unhide HH2).al).mono ?_; rintro e w3 ⟨rfl, hw⟩; rw [hw]; clear hw w3; rw [unhide HC])
        | (at_delete; refine wp_kdel (R := slR) Tryz.underlying84 rfl _ _ rfl rfl rfl (unhide HH2).km (by have := unhide HQ0; omega) (by have := unhide HQ0; omega) ?_; intro w4 hs4 hg4; have HX4 := hide (And.intro hs4 hg4); clear hs4 hg4))
      obtain ⟨hs4, hg4⟩ := unhide HX4
      have hmv : Moves [kb] w2 w4 := L5.Moves.of_grown hg4 (fun k hk => by cases hk; simp)
      have H4 := (unhide HH2).kmap (kids' := setK h.kids q.toNat []) hg4 hs4 (Nat.le_refl c) (fun i hi => by
        unfold setK
        by_cases e : i = q.toNat
        · rw [if_pos e, if_pos e]
          rfl
        · rw [if_neg e, if_neg e]
          exact (unhide HH2).kids hmv (fun x hx => .inl (by simp at hx; simp [foot, hx])) i hi)
      have hm04 : Moves (foot p a b kb fd) w w4 := ((L5.Moves.of_below _ (below_drew w)).trans (unhide HM2) (fun x hx => .inl (by simp at hx; simp [foot, hx]))).trans hmv (fun x hx => .inl (by simp at hx; simp [foot, hx]))
      have HT4 : Hid (HTurned w w4 p d { h with al := L5.dropM 2 h.al q h.gen, kids := setK h.kids q.toNat [] } c (foot p a b kb fd)) := ⟨_, ⟨a, b, kb, fd, _, H4, rfl⟩, hm04, fun x hx => .inl hx⟩
      have HI4 : Hid (Ints w4 (.slice a0 (h.kids q.toNat).length cap0) (h.kids q.toNat)) := (unhide HKID).same (fun g hg => hmv.block g ((unhide HKID).lt g hg) (by have := (unhide HH2).row (unhide HKID) hg; simp [foot] at this; simp; exact this.2.2.2.1))
      have hheld : heldL (L5.dropM 2 h.al q h.gen) < f := by
        have h1 := held_drop_last h.al q h.gen (by have := unhide HZ; omega) (unhide HZ2)
        have h2 := unhide HF
        omega
      have HHELD := hide hheld
      have HNE := hide (unhide HN q.toNat)
      have HN4 := hide (near_setK (unhide HN) q.toNat (L5.dropM 2 h.al q h.gen))
      clear hs4 hg4 hmv H4 hm04 hheld HX4 HH2 HM2 HKID HH HG HCB HDB HN p0 p2 r0 r2 r3 m1 m2 hlk
      have HK1 := hide k1
      have HK2 := hide k2
      clear k1 k2
      generalize h.kids q.toNat = ks at *
      have hlen : ks.length ≤ maxLen := (unhide HI4).len
      unfold maxLen at hlen
      go_wp2_with fail
      go_loopw [46] (fun t wr => ∃ k : Nat, k ≤ ks.length ∧ t = .int .i64 (k : Int) ∧ HTurned w wr p d ((ks.take k).foldl (dropH f) { h with al := L5.dropM 2 h.al q h.gen, kids := setK h.kids q.toNat [] }) c (foot p a b kb fd) ∧ Ints wr (.slice a0 ks.length cap0) ks) (fun t _ => ks.length - (intOf t).toNat)
      case atStart => exact ⟨0, Nat.zero_le _, rfl, unhide HT4, unhide HI4⟩
      case round =>
        clear HT4 HI4
        obtain ⟨k, hk, rfl, ht, hv⟩ := hrel
        by_cases hlt : k < ks.length
        · obtain ⟨g, rfl, hcell⟩ := hv.at k hlt
          obtain ⟨F1, H1, hm1, hf1⟩ := ht
          have hx := unhide HNE _ (List.getElem_mem hlt)
          have hI : L5.I64 ks[k] := by unfold L5.I64; omega
          have HI := hide hI
          have k1 := cell_moves hm1 (unhide HK1) (unhide HC1)
          have k2 := cell_moves hm1 (unhide HK2) (unhide HC2)
          unfold clos at k2
          have hn1 : c1 ∉ F1 := fun hx => by
            rcases hf1 _ hx with h1 | h1
            · exact unhide HC1 h1
            · have := World.block_lt_of_cell? _ _ (unhide HK1); simp at this; omega
          have hn2 : c2 ∉ F1 := fun hx => by
            rcases hf1 _ hx with h1 | h1
            · exact unhide HC2 h1
            · have := World.block_lt_of_cell? _ _ (unhide HK2); simp at this; omega
          have HH1 := hide H1
          have HX1 := hide (And.intro hm1 hf1)
          have HV1 := hide hv
          have HN1 := hide (And.intro hn1 hn2)
          obtain ⟨X, hX⟩ : ∃ y, y = ks[k] := ⟨_, rfl⟩
          rw [← hX] at hcell HI
          have HXE := hide hX
          clear H1 hI hm1 hf1 hv hx hX hn1 hn2
          go_wp2_with (go_at_call 158; refine (unhide HIH _ X c1 c2 F1 _ (unhide HH1) (Nat.lt_of_le_of_lt (held_fold f _ _) (unhide HHELD)) (unhide HI) (near_fold f _ _ (unhide HN4)) k1 k2 (unhide HN1).1 (unhide HN1).2).mono ?_; rintro e w7 ⟨rfl, ht7⟩; have HX7 := hide ht7; clear ht7)
          go_roundw
          case rel =>
            obtain ⟨hm1, hf1⟩ := unhide HX1
            have e1 : (ks.take (k + 1)).foldl (dropH f) { h with al := L5.dropM 2 h.al q h.gen, kids := setK h.kids q.toNat [] } = dropH f ((ks.take k).foldl (dropH f) { h with al := L5.dropM 2 h.al q h.gen, kids := setK h.kids q.toNat [] }) X := by
              rw [List.take_add_one, List.getElem?_eq_getElem hlt, ← unhide HXE, List.foldl_append]
              rfl
            refine ⟨k + 1, by omega, by go_num, ?_, ?_⟩
            · rw [e1]
              exact HTurned.then hm1 hf1 (unhide HX7)
            · obtain ⟨_, _, k2, _⟩ := unhide HX7
              exact (unhide HH1).ints (unhide HV1) k2
          case measure => simp [intOf]; omega
        · obtain rfl : k = ks.length := by omega
          rw [List.take_length] at ht
          have HT := hide ht
          clear ht hv
          go_wp2
          go_ret
          rw [unhide HD, unhide HE]
          exact ⟨rfl, unhide HT⟩
end Go.Proofs.YtdelobaiicoogaaGreatDoor

/- Drop. -/
namespace Go.Proofs.YtdelobaiicoogaaGreatDoor
open Go.ChangeShapes Go.WideShapes Go.ChangeAt Go.RowKit
variable {w w' : World} {p d : Nat} {h : Hp} {c : Nat} {F : List Nat}

theorem one_free {W : World} {g : Nat} {cs : Array Value} {t : TypeId} (hb : W.heap[g]? = some (.cells cs t (0, 0))) (i : Nat) : W.frozen? ⟨g, i, none⟩ = false := by simp [World.frozen?, hb]
theorem one_set {W : World} {g : Nat} {v0 : Value} {t : TypeId} (hb : W.heap[g]? = some (.cells #[v0] t (0, 0))) (u : Value) : (W.setCell ⟨g, 0, none⟩ u).cell? ⟨g, 0, none⟩ = some u := by simp [World.cell?, World.setCell, Array.getElem?_modify, hb]
set_option maxHeartbeats 2000000 in
set_option maxRecDepth 20000 in
theorem hdrop_any (q : Int) (hq : L5.I64 q) (w : World) (H : IsHeap w p d h c F) (hn : h.near) :
    Calls Tryz.prog 119 #[.pointer (some ⟨p, 0, none⟩), .int .i64 q] w fun e w' => e = .returned (.int .i64 (L5.dropE 2 h.al q)) ∧ HTurned w w' p d (dropR h q) c F := by
  have hb3 : Below w.heap.size w ((w.alloc (.cells #[.pointer (some ⟨p, 0, none⟩)] 24)).alloc (.cells #[clos w.heap.size (w.heap.size + 1)] 91)) := ((Below.refl _ _).alloc (Nat.le_refl _) _).alloc (by simp) _
  have k1 : ((w.alloc (.cells #[.pointer (some ⟨p, 0, none⟩)] 24)).alloc (.cells #[clos w.heap.size (w.heap.size + 1)] 91)).cell? ⟨w.heap.size, 0, none⟩ = some (.pointer (some ⟨p, 0, none⟩)) := by simp
  have k2 : ((w.alloc (.cells #[.pointer (some ⟨p, 0, none⟩)] 24)).alloc (.cells #[clos w.heap.size (w.heap.size + 1)] 91)).cell? ⟨w.heap.size + 1, 0, none⟩ = some (clos w.heap.size (w.heap.size + 1)) := by simp
  have hlt := H.lt
  have HK1 := hide k1
  have HK2 := hide k2
  have HB3 := hide hb3
  have HH := hide (H.grow hb3)
  have HL := hide hlt
  have HQ := hide hq
  have HN := hide hn
  have hst := fun (W : World) (a : Addr) (x) (y) (z) => run_store Tryz.prog W a (.func x y z) .plain rfl
  clear H hb3 k1 k2 hlt hq hn
  go_enter Tryz.func119, Tryz.ntmps119
  go_wp2_with (go_at_call 158; unfold clos at HH HK1 HK2; refine (dclos (h.al.length + 1) h q w.heap.size (w.heap.size + 1) F _ (unhide HH) (by have := heldL_le h.al; omega) (unhide HQ) (unhide HN) (unhide HK1) (unhide HK2) (fun hx => by have := unhide HL _ hx; omega) (fun hx => by have := unhide HL _ hx; omega)).mono ?_; rintro e w7 ⟨rfl, ht7⟩; have HX7 := hide ht7; clear ht7)
  go_ret
  refine ⟨rfl, ?_⟩
  exact HTurned.then (L5.Moves.of_below _ (unhide HB3)) (fun x hx => .inl hx) (unhide HX7)
end Go.Proofs.YtdelobaiicoogaaGreatDoor

/- Where a key stands, as the program tells it. -/
namespace Go.Proofs.YtdelobaiicoogaaGreatDoor.L6
open Go.ChangeShapes Go.WideShapes Go.ChangeAt Go.RowKit

/-- how many keys are below, up to one that isn't; whether that is just the key -/
def findK : List ByteArray → ByteArray → Nat × Bool
  | [], _ => (0, false)
  | k :: t, key => if less k key then ((findK t key).1 + 1, (findK t key).2) else (0, k.toList == key.toList)
def Fupto (ks : List ByteArray) (key : ByteArray) (k : Nat) : Prop := findK ks key = ((findK (ks.drop k) key).1 + k, (findK (ks.drop k) key).2)
theorem Fupto.start (ks : List ByteArray) (key : ByteArray) : Fupto ks key 0 := rfl
theorem Fupto.next {ks : List ByteArray} {key x : ByteArray} {k : Nat} (h : Fupto ks key k) (hx : ks[k]? = some x) (hl : less x key = true) : Fupto ks key (k + 1) := by
  unfold Fupto at *
  rw [h, drop_get hx]
  simp only [findK, hl, if_true]
  exact Prod.ext (by show _ + 1 + k = _ + (k + 1); omega) rfl
theorem Fupto.stop {ks : List ByteArray} {key x : ByteArray} {k : Nat} (h : Fupto ks key k) (hx : ks[k]? = some x) (hl : less x key = false) : findK ks key = (k, x.toList == key.toList) := by
  rw [h, drop_get hx]
  simp [findK, hl]
theorem Fupto.done {ks : List ByteArray} {key : ByteArray} (h : Fupto ks key ks.length) : findK ks key = (ks.length, false) := by
  rw [h, List.drop_length]
  simp [findK]
theorem map_get {β : Type} {l : List (ByteArray × β)} {k : Nat} {x : ByteArray × β} (h : l[k]? = some x) : (l.map (fun x => x.1))[k]? = some x.1 := by
  rw [List.getElem?_map, h]
  rfl
theorem ret_ib {a a' : Int} {b b' : Bool} (h : a = a') (h' : b = b') : Ending.returned (.tuple #[.int .i64 a, .bool b]) = .returned (.tuple #[.int .i64 a', .bool b']) := by rw [h, h']

set_option maxRecDepth 10000 in
set_option maxHeartbeats 2000000 in
theorem findI_any (a : Option Addr) (cap : Nat) (l : List It) (key : ByteArray) (w : World) (hr : Row Value.string w a l) (hl : l.length ≤ 1000000) :
    Calls Tryz.prog 76 #[.slice a l.length cap, .func (.func 77) #[] #[], .string key] w fun e w' => e = .returned (.tuple #[.int .i64 ((findK (l.map (fun x => x.1)) key).1 : Int), .bool (findK (l.map (fun x => x.1)) key).2]) ∧ Below w.heap.size w w' := by
  have HR := hide hr
  clear hr
  go_enter Tryz.func76, Tryz.ntmps76
  go_wp2
  go_loopw [13] (fun t wr => ∃ k : Nat, k ≤ l.length ∧ t = .int .i64 k ∧ Fupto (l.map (fun x => x.1)) key k ∧ Below w.heap.size w wr) (fun t _ => l.length - (intOf t).toNat)
  case atStart => exact ⟨0, Nat.zero_le _, rfl, Fupto.start _ _, Below.refl _ _⟩
  case round =>
    obtain ⟨k, hk, rfl, hu, hbel⟩ := hrel
    have HU := hide hu
    have HBel := hide hbel
    clear hu hbel
    by_cases hlt : k < l.length
    · obtain ⟨b, off, rfl, hr⟩ := (unhide HR).at hlt
      obtain ⟨⟨x, val⟩, hx⟩ := get_some hlt
      have c0 := cell_keep_of (unhide HBel) (hr k _ hx).1
      have c1 := cell_keep_of (unhide HBel) (hr k _ hx).2
      simp only at c0 c1
      have HX := hide (map_get hx)
      have HB2 := hide (below_then (unhide HBel) (below_alloc wr (.cells #[.string x, .string val] 58)))
      have HC := hide (fun W => itemKey_any x val W)
      clear hx hr HR
      by_cases hls : less x key = true
      · have HLS := hide hls
        have hls' : Op.bytesLess x.toList key.toList = true := hls
        clear hls
        go_wp2_with (go_at_call 77; refine (unhide HC _).mono ?_; rintro e w3 ⟨rfl, hb⟩; have HB3 := hide (below_then (unhide HB2) hb); clear hb)
        go_roundw
        case rel => exact ⟨k + 1, by omega, by go_num, (unhide HU).next (unhide HX) (unhide HLS), unhide HB3⟩
        case measure => simp [intOf]; omega
      · have hls : less x key = false := by simpa using hls
        have HE := hide ((unhide HU).stop (unhide HX) hls)
        have hls' : Op.bytesLess x.toList key.toList = false := hls
        clear hls
        go_wp2_with (go_at_call 77; refine (unhide HC _).mono ?_; rintro e w3 ⟨rfl, hb⟩; have HB3 := hide (below_then (unhide HB2) hb); clear hb)
        go_ret2
        exact ⟨ret_ib (by rw [unhide HE]) (by rw [unhide HE]), unhide HB3⟩
    · obtain rfl : k = l.length := by omega
      have HD : Hid (findK (l.map (fun x => x.1)) key = (l.length, false)) := by
        show _ = _
        have h := unhide HU
        have e : l.length = (l.map (fun x => x.1)).length := by simp
        rw [e] at h
        rw [h.done, ← e]
      go_wp2
      go_ret2
      exact ⟨ret_ib (by rw [unhide HD]) (by rw [unhide HD]), unhide HBel⟩

set_option maxRecDepth 10000 in
set_option maxHeartbeats 2000000 in
theorem findK_any (a : Option Addr) (cap : Nat) (l : List Kd) (key : ByteArray) (w : World) (hr : Row kv w a l) (hl : l.length ≤ 1000000) :
    Calls Tryz.prog 78 #[.slice a l.length cap, .func (.func 79) #[] #[], .string key] w fun e w' => e = .returned (.tuple #[.int .i64 ((findK (l.map (fun x => x.1)) key).1 : Int), .bool (findK (l.map (fun x => x.1)) key).2]) ∧ Below w.heap.size w w' := by
  have HR := hide hr
  clear hr
  go_enter Tryz.func78, Tryz.ntmps78
  go_wp2
  go_loopw [13] (fun t wr => ∃ k : Nat, k ≤ l.length ∧ t = .int .i64 k ∧ Fupto (l.map (fun x => x.1)) key k ∧ Below w.heap.size w wr) (fun t _ => l.length - (intOf t).toNat)
  case atStart => exact ⟨0, Nat.zero_le _, rfl, Fupto.start _ _, Below.refl _ _⟩
  case round =>
    obtain ⟨k, hk, rfl, hu, hbel⟩ := hrel
    have HU := hide hu
    have HBel := hide hbel
    clear hu hbel
    by_cases hlt : k < l.length
    · obtain ⟨b, off, rfl, hr⟩ := (unhide HR).at hlt
      obtain ⟨⟨x, val⟩, hx⟩ := get_some hlt
      have c0 := cell_keep_of (unhide HBel) (hr k _ hx).1
      have c1 := cell_keep_of (unhide HBel) (hr k _ hx).2
      simp only at c0 c1
      have HX := hide (map_get hx)
      have HB2 := hide (below_then (unhide HBel) (below_alloc wr (.cells #[.string x, .int .i64 val] 76)))
      have HC := hide (fun W => kidKey_any x val W)
      clear hx hr HR
      by_cases hls : less x key = true
      · have HLS := hide hls
        have hls' : Op.bytesLess x.toList key.toList = true := hls
        clear hls
        go_wp2_with (go_at_call 79; refine (unhide HC _).mono ?_; rintro e w3 ⟨rfl, hb⟩; have HB3 := hide (below_then (unhide HB2) hb); clear hb)
        go_roundw
        case rel => exact ⟨k + 1, by omega, by go_num, (unhide HU).next (unhide HX) (unhide HLS), unhide HB3⟩
        case measure => simp [intOf]; omega
      · have hls : less x key = false := by simpa using hls
        have HE := hide ((unhide HU).stop (unhide HX) hls)
        have hls' : Op.bytesLess x.toList key.toList = false := hls
        clear hls
        go_wp2_with (go_at_call 79; refine (unhide HC _).mono ?_; rintro e w3 ⟨rfl, hb⟩; have HB3 := hide (below_then (unhide HB2) hb); clear hb)
        go_ret2
        exact ⟨ret_ib (by rw [unhide HE]) (by rw [unhide HE]), unhide HB3⟩
    · obtain rfl : k = l.length := by omega
      have HD : Hid (findK (l.map (fun x => x.1)) key = (l.length, false)) := by
        show _ = _
        have h := unhide HU
        have e : l.length = (l.map (fun x => x.1)).length := by simp
        rw [e] at h
        rw [h.done, ← e]
      go_wp2
      go_ret2
      exact ⟨ret_ib (by rw [unhide HD]) (by rw [unhide HD]), unhide HBel⟩

/-- the keys of a node's entries -/
def keysN (n : Nd) : List ByteArray := if n.leaf then n.its.map (fun x => x.1) else n.kds.map (fun x => x.1)

set_option maxRecDepth 10000 in
set_option maxHeartbeats 1000000 in
theorem find_any (n : Nd) (ai ak : Option Addr) (ci ck : Nat) (key : ByteArray) (w : World) (hn : Has w n ai ak) (hil : n.its.length ≤ 1000000) (hkl : n.kds.length ≤ 1000000) :
    Calls Tryz.prog 43 #[.agg #[.bool n.leaf, .slice ai n.its.length ci, .slice ak n.kds.length ck], .string key] w fun e w' => e = .returned (.tuple #[.int .i64 ((findK (keysN n) key).1 : Int), .bool (findK (keysN n) key).2]) ∧ Below w.heap.size w w' := by
  obtain ⟨L, its, kds⟩ := n
  simp only at hil hkl
  have hb0 := below_alloc w (.cells #[.bool L, .slice ai its.length ci, .slice ak kds.length ck] 38)
  have HI := hide (findI_any ai ci its key _ (hn.1.grow hb0) hil)
  have HK := hide (findK_any ak ck kds key _ (hn.2.grow hb0) hkl)
  have HB := hide hb0
  clear hn hb0
  cases L with
  | true =>
    have e : keysN ⟨true, its, kds⟩ = its.map (fun x => x.1) := rfl
    rw [e]
    clear e HK
    generalize findK (its.map (fun x => x.1)) key = T at *
    go_enter Tryz.func43, Tryz.ntmps43
    go_wp2_with (go_at_call 76; refine (unhide HI).mono ?_; rintro x w2 ⟨rfl, hb⟩)
    go_ret2
    exact ⟨rfl, below_then (unhide HB) hb⟩
  | false =>
    have e : keysN ⟨false, its, kds⟩ = kds.map (fun x => x.1) := rfl
    rw [e]
    clear e HI
    generalize findK (kds.map (fun x => x.1)) key = T at *
    go_enter Tryz.func43, Tryz.ntmps43
    go_wp2_with (go_at_call 78; refine (unhide HK).mono ?_; rintro x w2 ⟨rfl, hb⟩)
    go_ret2
    exact ⟨rfl, below_then (unhide HB) hb⟩
end Go.Proofs.YtdelobaiicoogaaGreatDoor.L6

/- slices.Grow of none, slices.Concat, of items. -/
namespace Go.Proofs.YtdelobaiicoogaaGreatDoor
open Go.ChangeShapes Go.WideShapes Go.ChangeAt Go.RowKit

abbrev itV := Value.string
/-- a row of items of one's own -/
abbrev OwnI (B : Nat) (w : World) (v : Value) (l : List L6.It) : Prop := L6.OwnE itV 58 B w v l
theorem pairs_one {β : Type} {sv : β → Value} (hs : ∀ y, (sv y).oneCell' = true) (l : List (ByteArray × β)) : ∀ u ∈ L6.pairs sv l, u.oneCell' = true := by
  induction l with
  | nil => intro u hu; cases hu
  | cons x t ih =>
    intro u hu
    have e : L6.pairs sv (x :: t) = Value.string x.1 :: sv x.2 :: L6.pairs sv t := rfl
    rw [e] at hu
    rcases List.mem_cons.1 hu with rfl | hu
    · rfl
    · rcases List.mem_cons.1 hu with rfl | hu
      · exact hs _
      · exact ih u hu
theorem pairs_len {β : Type} (sv : β → Value) (l : List (ByteArray × β)) : (L6.pairs sv l).length = l.length * 2 := by
  induction l with
  | nil => rfl
  | cons x t ih =>
    have e : L6.pairs sv (x :: t) = Value.string x.1 :: sv x.2 :: L6.pairs sv t := rfl
    rw [e, List.length_cons, List.length_cons, List.length_cons, ih]
    omega
/-- append of what another slice has, wherever it lies -/
theorem run_app_row (B : Nat) (ty : TypeId) (w : World) (v : Value) (l ys : List L6.It) (a : Option Addr) (cap : Nat) (hown : OwnI B w v l) (hrow : L6.Row itV w a ys) (hl : l.length + ys.length ≤ 1000000) (hB : B ≤ w.heap.size) :
    ∃ v' w', (Builtin.append_ #[35, 35] ty #[v, .slice a ys.length cap]).run Tryz.prog w = .ok v' w' ∧ OwnI B w' v' (l ++ ys) ∧ w.grownBy w' v.ownBlock ∧ (v'.ownBlock = v.ownBlock ∨ v'.ownBlock = some w.heap.size) := by
  obtain ⟨i0, hi, hz0, hz1, hz2⟩ := info_parts L6.info58
  have ho := hown
  unfold OwnI L6.OwnE at ho
  by_cases hy : ys = []
  · subst hy
    refine ⟨v, w, ?_, by rw [List.append_nil]; exact hown, ⟨rfl, rfl, rfl, Nat.le_refl _, fun _ _ _ => rfl⟩, .inl rfl⟩
    rcases ho.2 with ⟨rfl, hn⟩ | ⟨g, cp, cur, rfl, _, _, hnc, _⟩
    · cases a <;> simp [Builtin.append_, run_underlying Tryz.underlying35, sizeOf, typeInfo, hi, Builtin.lenOf, Builtin.firstCells, loadCells, loadCellsFrom]
    · cases a <;> simp [Builtin.append_, run_underlying Tryz.underlying35, sizeOf, typeInfo, hi, Builtin.lenOf, Builtin.firstCells, hnc, storeCells, loadCells, loadCellsFrom]
  · rcases hrow with h | ⟨b, off, rfl, hr⟩
    · exact absurd h hy
    · obtain ⟨v', w', hrn, ho', hg, _, hloc⟩ := run_append_own_at (P := Tryz.prog) w B 35 ty 58 i0 (.agg #[.string ByteArray.empty, .string ByteArray.empty]) 2 32 Tryz.underlying35 hi hz0 hz1 hz2 rfl (by decide) v l.length (L6.pairs itV l) ho ⟨b, off, none⟩ ys.length cap (L6.pairs itV ys) (pairs_len _ _)
        (fun j u hj => by
          rw [Go.WideShapes.add_plain]
          have hjl : j < ys.length * 2 := by rw [← pairs_len itV]; exact (List.getElem?_eq_some_iff.1 hj).1
          obtain ⟨x, hx⟩ := L6.get_some (l := ys) (k := j / 2) (by omega)
          obtain ⟨c0, c1⟩ := hr _ _ hx
          obtain ⟨p0, p1⟩ := L6.pairs_get itV ys _ _ hx
          rcases Nat.mod_two_eq_zero_or_one j with e | e
          · have ej : j = j / 2 * 2 := by omega
            rw [ej] at hj ⊢
            rw [p0] at hj
            cases hj
            exact c0
          · have ej : j = j / 2 * 2 + 1 := by omega
            rw [ej] at hj ⊢
            rw [p1] at hj
            cases hj
            exact c1)
        (pairs_one (fun _ => rfl) ys) (by unfold maxLen; omega) (by omega) hB
      refine ⟨v', w', hrn, ?_, hg, hloc⟩
      unfold OwnI L6.OwnE
      rw [List.length_append, L6.pairs_append]
      exact ho'
/-- slices.Grow of none -/
def grownW (w : World) (n : Nat) : World := w.drew.alloc (.cells (Builtin.zeroCells (Value.agg #[.string ByteArray.empty, .string ByteArray.empty]).cells n ++ Builtin.zeroCells (Value.agg #[.string ByteArray.empty, .string ByteArray.empty]).cells (grownCap w n 0 58 - n)) 58)
theorem grown_own (w : World) (n : Nat) (hn : n ≤ 1000000) : OwnI w.heap.size (grownW w n) (.slice (some ⟨w.heap.size, 0, none⟩) 0 (grownCap w n 0 58)) [] := by
  have hge := grownCap_ge w n 0 58
  have hle : grownCap w n 0 58 ≤ maxLen := grownCap_le_maxLen w n 0 58 (by unfold maxLen; omega)
  exact World.ownsRow_made w.drew _ _ (Nat.le_refl _) hle (by
    simp only [Array.size_append, size_zeroCells]
    show n * 2 + (grownCap w n 0 58 - n) * 2 = grownCap w n 0 58 * 2
    omega)
set_option maxHeartbeats 2000000 in
set_option maxRecDepth 20000 in
theorem grow_any (n : Nat) (hn : n ≤ 1000000) (w : World) :
    Calls Tryz.prog 86 #[.slice none 0 0, .int .i64 (n : Int)] w fun e w' => ∃ v, e = .returned v ∧ OwnI w.heap.size w' v [] ∧ Below w.heap.size w w' := by
  have h1 : ¬ (n : Int) < 0 := by omega
  by_cases h0 : n = 0
  · subst h0
    go_enter Tryz.func86, Tryz.ntmps86
    go_wp2
    go_ret
    exact ⟨_, rfl, L6.OwnE.nil _ _ _ _, Below.refl _ _⟩
  · obtain ⟨i0, hi, hz0, hz1, hz2⟩ := info_parts L6.info58
    have happ := fun ty => Lib.run_append_nil_zeros (P := Tryz.prog) w 35 3 ty 58 i0 _ .i64 .i64 Tryz.underlying35 Tryz.underlying3 hi hz0 n (by omega) (by omega) (by omega) (by rw [hz2]; omega)
    have hge := grownCap_ge w n 0 58
    have HO := hide (grown_own w n hn)
    have h2 : 0 < (n : Int) := by omega
    have hw : IntKind.i64.wrap ((n : Int) - 0) = (n : Int) := by rw [IntKind.wrap_i64]; omega
    have HA := hide happ
    have HW : Hid (grownW w n = w.drew.alloc (.cells (Builtin.zeroCells (Value.agg #[.string ByteArray.empty, .string ByteArray.empty]).cells n ++ Builtin.zeroCells (Value.agg #[.string ByteArray.empty, .string ByteArray.empty]).cells (grownCap w n 0 58 - n)) 58)) := rfl
    have HBW : Hid (Below w.heap.size w (grownW w n)) := ((Below.refl _ w).drew).alloc (by simp) _
    generalize grownCap w n 0 58 = cp at *
    clear happ hi hz0 hz1 hz2
    go_enter Tryz.func86, Tryz.ntmps86
    go_wp2_with (at_builtin; refine Lib.wpList_append_run _ rfl _ _ _ _ rfl _ _ rfl rfl _ _ (unhide HA _) ?_; rw [← unhide HW])
    go_ret
    exact ⟨_, rfl, unhide HO, unhide HBW⟩
end Go.Proofs.YtdelobaiicoogaaGreatDoor

/- slices.Concat of items. -/
namespace Go.Proofs.YtdelobaiicoogaaGreatDoor
open Go.ChangeShapes Go.WideShapes Go.ChangeAt Go.RowKit

theorem app_row {ops : Array Oper} {rest : List Oper} {o : Oper} {a : Act} {Q : Exit → Act → World → Prop} {B : Nat} {w : World} {v : Value} {l ys : List L6.It} {ad : Option Addr} {cap : Nat}
    (hwant : Region.wanted o (yielded ops a.tmps) = true) (s x : Operand) (ho : o.op = .call { callee := .builtin .append, args := #[s, x], argTypes := #[35, 35] })
    (hs : a.eval s = v) (hx : a.eval x = .slice ad ys.length cap) (hown : OwnI B w v l) (hrow : L6.Row itV w ad ys) (hl : l.length + ys.length ≤ 1000000) (hB : B ≤ w.heap.size)
    (h : ∀ a' cap' w', OwnI B w' (.slice a' (l ++ ys).length cap') (l ++ ys) → w.grownBy w' v.ownBlock → wpList Tryz.prog ops Q rest (a.put o.dst (.slice a' (l ++ ys).length cap')) w') :
    wpList Tryz.prog ops Q (o :: rest) a w := by
  obtain ⟨v', w', hr, r1, r2, r3⟩ := run_app_row B o.type w v l ys ad cap hown hrow hl hB
  obtain ⟨a', cap', rfl⟩ := r1.form
  refine BigFrame.wpList_want hwant fun K hK => ?_
  unfold Oper.wp execOp
  simp only [ho, resolve, invoke, builtin, Sem.run_bind, Sem.run_pure, Result.andThen_ok, List.map_toArray, List.map_cons, List.map_nil, hs, hx, hr]
  exact hK _ _ (h a' cap' w' r1 r2)
/-- a part that is put to others: where it lies, its room, what it has -/
abbrev Pt3 := Option Addr × Nat × List L6.It
def lens (ps : List Pt3) : Nat := (ps.map (fun x => x.2.2.length)).sum
def cat (ps : List Pt3) : List L6.It := ps.flatMap (fun x => x.2.2)
theorem cat_len (ps : List Pt3) : (cat ps).length = lens ps := by
  induction ps with
  | nil => rfl
  | cons x t ih =>
    unfold cat lens at *
    simp [List.flatMap_cons, ih]
theorem take_next {α : Type} {l : List α} {k : Nat} (hk : k < l.length) : l.take (k + 1) = l.take k ++ [l[k]] := by
  rw [List.take_add_one, List.getElem?_eq_getElem hk]
  rfl
theorem lens_take (ps : List Pt3) (k : Nat) (hk : k < ps.length) : lens (ps.take (k + 1)) = lens (ps.take k) + ps[k].2.2.length := by
  unfold lens
  rw [take_next hk, List.map_append, List.sum_append]
  simp only [List.map_cons, List.map_nil, List.sum_cons, List.sum_nil, Nat.add_zero]
theorem cat_take (ps : List Pt3) (k : Nat) (hk : k < ps.length) : cat (ps.take (k + 1)) = cat (ps.take k) ++ ps[k].2.2 := by
  unfold cat
  rw [take_next hk, List.flatMap_append]
  simp only [List.flatMap_cons, List.flatMap_nil, List.append_nil]
theorem lens_le (ps : List Pt3) (k : Nat) : lens (ps.take k) ≤ lens ps := by
  unfold lens
  have h : ps.map (fun x => x.2.2.length) = (ps.take k).map (fun x => x.2.2.length) ++ (ps.drop k).map (fun x => x.2.2.length) := by rw [← List.map_append, List.take_append_drop]
  rw [h, List.sum_append]
  omega

set_option maxHeartbeats 4000000 in
set_option maxRecDepth 20000 in
theorem concat_any (ps : List Pt3) (b cap : Nat) (w : World) (hc : ∀ i x, ps[i]? = some x → w.cell? ⟨b, i, none⟩ = some (.slice x.1 x.2.2.length x.2.1) ∧ L6.Row itV w x.1 x.2.2) (hl : lens ps ≤ 100000) (hp : ps.length ≤ 1000) :
    Calls Tryz.prog 48 #[.slice (some ⟨b, 0, none⟩) ps.length cap] w fun e w' => ∃ v, e = .returned v ∧ OwnI w.heap.size w' v (cat ps) ∧ Below w.heap.size w w' := by
  have HC := hide hc
  have HL := hide hl
  clear hc hl
  go_enter Tryz.func48, Tryz.ntmps48
  go_wp2
  go_loopw [3, 11] (fun s t wr => ∃ k : Nat, k ≤ ps.length ∧ s = .int .i64 ((lens (ps.take k) : Nat) : Int) ∧ t = .int .i64 (k : Int) ∧ wr = w) (fun s t _ => ps.length - (intOf t).toNat)
  case atStart => exact ⟨0, Nat.zero_le _, rfl, rfl, rfl⟩
  case round =>
    obtain ⟨k, hk, rfl, rfl, hw⟩ := hrel
    have hw := hw.symm
    subst hw
    have hle := lens_le ps k
    by_cases hlt : k < ps.length
    · obtain ⟨c0, _⟩ := unhide HC k _ (List.getElem?_eq_getElem hlt)
      have hlt' : (k : Int) < (ps.length : Int) := by omega
      have hst := lens_take ps k hlt
      have hle2 := lens_le ps (k + 1)
      have hL := unhide HL
      generalize hT : lens (ps.take k) = T at *
      generalize hT2 : lens (ps.take (k + 1)) = T2 at *
      have HT2 := hide hT2
      clear hT hT2
      generalize ps[k] = x at *
      obtain ⟨ad, cp, ys⟩ := x
      simp only at c0 hst
      have hw1 : IntKind.i64.wrap ((T : Int) + (ys.length : Int)) = ((T + ys.length : Nat) : Int) := by rw [IntKind.wrap_i64]; omega
      have hnn : ¬ ((T + ys.length : Nat) : Int) < 0 := by omega
      have HST := hide hst
      clear hst
      go_wp2
      go_roundw
      case rel => exact ⟨k + 1, by omega, by rw [unhide HT2, unhide HST]; first | rfl | rw [Int.natCast_add] | go_num, by go_num, by trivial⟩
      case measure => simp [intOf]; omega
    · obtain rfl : k = ps.length := by omega
      have hlt' : ¬ (ps.length : Int) < (ps.length : Int) := by omega
      rw [List.take_length]
      clear hlt hle
      go_wp2_with (go_at_call 86; refine (grow_any (lens ps) (by have := unhide HL; omega) _).mono ?_; rintro e w1 ⟨v, rfl, ho1, hb1⟩; have HO1 := hide ho1; have HB1 := hide hb1; clear ho1 hb1)
      go_loopw [6, 27] (fun s t wr => ∃ k : Nat, k ≤ ps.length ∧ t = .int .i64 (k : Int) ∧ OwnI w.heap.size wr s (cat (ps.take k)) ∧ Below w.heap.size w wr) (fun s t _ => ps.length - (intOf t).toNat)
      case atStart => exact ⟨0, Nat.zero_le _, rfl, unhide HO1, unhide HB1⟩
      case round =>
        clear HO1 HB1
        obtain ⟨k, hk, rfl, ho, hb⟩ := hrel
        by_cases hlt : k < ps.length
        · obtain ⟨c0, hrow⟩ := unhide HC k _ (List.getElem?_eq_getElem hlt)
          have hblt := World.block_lt_of_cell? _ _ c0
          have c0' := (hb.cell hblt).trans c0
          have hlt' : (k : Int) < (ps.length : Int) := by omega
          have hst := cat_take ps k hlt
          have hle := lens_le ps (k + 1)
          rw [← cat_len] at hle
          have hL := unhide HL
          have HRW := hide (L6.Row.grow hrow hb)
          generalize hT : cat (ps.take k) = T at *
          generalize hT2 : cat (ps.take (k + 1)) = T2 at *
          have HT2 := hide hT2
          clear hT hT2 c0 hrow hblt
          generalize ps[k] = x at *
          obtain ⟨ad, cp, ys⟩ := x
          simp only at c0' hst HRW
          rw [hst, List.length_append] at hle
          have HST := hide hst
          have HO := hide ho
          have HB := hide hb
          have HLE := hide hle
          obtain ⟨a0, cap0, rfl⟩ := ho.form
          clear hst ho hb hle
          go_wp2_with (at_builtin; refine app_row (B := w.heap.size) (l := T) (ys := ys) rfl _ _ rfl rfl rfl (unhide HO) (unhide HRW) (by have := unhide HLE; have := unhide HL; omega) (unhide HB).size ?_; intro a5 cap5 w5 ho5 hg5; have HY := hide (And.intro ho5 hg5); clear ho5 hg5)
          go_roundw
          case rel =>
            obtain ⟨ho5, hg5⟩ := unhide HY
            refine ⟨k + 1, by omega, by go_num, ?_, ?_⟩
            · rw [unhide HT2, unhide HST]
              rw [List.length_append] at ho5
              exact ho5
            · have hb := unhide HB
              exact hb.grown hg5 hb.size (fun g hg => (World.ownsRow.lt (unhide HO) g hg).1)
          case measure => simp [intOf]; omega
        · obtain rfl : k = ps.length := by omega
          rw [List.take_length] at ho
          have hlt' : ¬ (ps.length : Int) < (ps.length : Int) := by omega
          have HO := hide ho
          have HB := hide hb
          clear ho hb hlt
          go_wp2
          go_ret
          exact ⟨_, rfl, unhide HO, unhide HB⟩
end Go.Proofs.YtdelobaiicoogaaGreatDoor
