/- sort.Search; where in the row the first piece stands that isn't below an index; which pieces bytes touch. -/
import Derived.Test.YtmpgaecnibakdaaDoorPa
namespace Go.Proofs.YtmpgaecnibakdaaDoor
open Go.ChangeShapes Go.WideShapes Go.ChangeAt Go.RowKit
attribute [local go_sem] Oper.semAt_some

set_option maxHeartbeats 4000000 in
set_option maxRecDepth 20000 in
theorem searchE (K : Nat) (caps : Array Value) (g : Nat → Bool) (n : Nat) (I : World → Prop) (w : World) (hn : n ≤ 1000000) (hI : I w) (hb : ∀ W W', I W → Below W.heap.size W W' → I W')
    (he : ∀ args w, (callFunc K args).run Tryd.prog w = .ok (.enter K args) w)
    (hf : ∀ (k : Nat) (W : World), k < n → I W → Calls Tryd.prog K (#[.int .i64 (k : Int)] ++ caps) W fun e W' => e = .returned (.bool (g k)) ∧ I W') :
    Calls Tryd.prog 46 #[.int .i64 (n : Int), .func (.func K) #[] caps] w fun e w' => e = .returned (.int .i64 (searchM g n : Int)) ∧ I w' := by
  have HF := hide hf
  have HB := hide hb
  have HI := hide hI
  clear hf hb hI
  go_enter Tryd.func46, Tryd.ntmps46
  go_wp2
  go_loopw [5, 6] (fun s t wr => ∃ i j : Nat, i ≤ j ∧ j ≤ n ∧ s = .int .i64 (i : Int) ∧ t = .int .i64 (j : Int) ∧ searchF g n i j = searchM g n ∧ I wr) (fun s t _ => (intOf t).toNat - (intOf s).toNat)
  case atStart => exact ⟨0, n, Nat.zero_le _, Nat.le_refl _, rfl, rfl, rfl, unhide HI⟩
  case round =>
    obtain ⟨i, j, hij, hjn, rfl, rfl, hs, hi⟩ := hrel
    have HS := hide hs
    have HI2 := hide hi
    clear hs hi HI
    by_cases hlt : i < j
    · have hlt' : (i : Int) < (j : Int) := by omega
      have HC := hide (unhide HF ((i + j) / 2) wr (by omega) (unhide HI2))
      have hmid : (((i + j) / 2 : Nat) : Int) = ((i : Int) + (j : Int)) / 2 := by omega
      have hsm : (i : Int) + (j : Int) ≤ 2000000 := by omega
      have hs0 : (0 : Int) ≤ (i : Int) + (j : Int) := by omega
      obtain ⟨m, hm⟩ : ∃ m, m = (i + j) / 2 := ⟨_, rfl⟩
      have hon := searchF_on g i j hlt
      have hs2 := unhide HS
      rw [searchF_more g n (n + 1) i j (by omega) (by omega), searchF_on g i j hlt (n + 1) (by omega)] at hs2
      rw [← hm] at HC hs2 hmid
      have hmi : i ≤ m ∧ m < j := by omega
      have HS2 := hide hs2
      have HM := hide hm
      have HMI := hide hmi
      rw [hmid] at HC
      clear hon hs2 hm hmi HS
      go_wp2_with fail
      refine (unhide HC).mono ?_
      rintro e w2 ⟨rfl, hi2⟩
      have HI3 := hide hi2
      clear hi2
      rw [← hmid]
      cases hg : g m with
      | true =>
        have hs3 := unhide HS2
        rw [if_pos hg] at hs3
        have HS3 := hide hs3
        clear hs3 hg
        go_wp2
        go_roundw
        case rel => exact ⟨i, m, (unhide HMI).1, by have := (unhide HMI).2; omega, rfl, by rw [hmid], by rw [← unhide HS3]; exact searchF_more g n (n + 1) i m (by have := (unhide HMI).2; omega) (by have := (unhide HMI).2; omega), unhide HI3⟩
        case measure => have := (unhide HMI).2; simp [intOf]; omega
      | false =>
        have hs3 := unhide HS2
        rw [if_neg (by rw [hg]; decide)] at hs3
        have HS3 := hide hs3
        have hmn : (m : Int) ≤ 1000000 := by have := (unhide HMI).2; omega
        clear hs3 hg
        go_wp2
        go_roundw
        case rel => exact ⟨m + 1, j, by have := (unhide HMI).2; omega, hjn, by go_num, rfl, by rw [← unhide HS3]; exact searchF_more g n (n + 1) (m + 1) j (by omega) (by omega), unhide HI3⟩
        case measure => have := (unhide HMI).2; simp [intOf]; omega
    · have hlt' : ¬ (i : Int) < (j : Int) := by omega
      have HE : Hid (i = searchM g n) := (searchF_end g i j hlt n).symm.trans (unhide HS)
      go_wp2
      go_ret
      exact ⟨ret_int (by rw [← unhide HE]), unhide HI2⟩

theorem b_drewN (w : World) (n : Nat) : Below w.heap.size w (w.drewN n) := by
  refine ⟨?_, ?_, ?_, ?_, ?_⟩ <;> simp [World.drewN]
set_option maxHeartbeats 2000000 in
theorem seekE (b off cap : Nat) (l : List Pc) (index : Int) (k p q : Nat) (w : World) (hk : k < l.length)
    (hc : ∀ i x, l[i]? = some x → w.cell? ⟨b, off + i * 2, none⟩ = some (ixV x) ∧ w.cell? ⟨b, off + (i * 2 + 1), none⟩ = some (daV x))
    (hp : w.cell? ⟨p, 0, none⟩ = some (.slice (some ⟨b, off, none⟩) l.length cap)) (hq : w.cell? ⟨q, 0, none⟩ = some (.int .i64 index)) :
    Calls Tryd.prog 47 #[.int .i64 (k : Int), .pointer (some ⟨p, 0, none⟩), .pointer (some ⟨q, 0, none⟩)] w fun e w' => e = .returned (.bool (decide (index ≤ (l.getD k (0, [])).1))) ∧ Below w.heap.size w w' := by
  obtain ⟨⟨ix, da⟩, hx⟩ := get_some hk
  have c0 := (hc k _ hx).1
  unfold ixV at c0
  simp only at c0
  have hg : l.getD k (0, []) = (ix, da) := by rw [List.getD_eq_getElem?_getD, hx]; rfl
  rw [hg]
  clear hc hx hg
  go_enter Tryd.func47, Tryd.ntmps47
  go_wp2
  go_quiet (fail)
  go_wp2
  go_ret
  exact ⟨rfl, b_drewN _ _⟩

set_option maxHeartbeats 2000000 in
theorem seek_any (a : Option Addr) (cap : Nat) (l : List Pc) (index : Int) (w : World) (hr : Ps w a l) (hs : Sorted l) (hl : l.length ≤ 1000000) :
    Calls Tryd.prog 36 #[.slice a l.length cap, .int .i64 index] w fun e w' => e = .returned (.int .i64 (cntB l index : Int)) ∧ Below w.heap.size w w' := by
  have b1 := b_alloc w (.cells #[.slice a l.length cap] 22)
  have n1 : (w.alloc (.cells #[.slice a l.length cap] 22)).cell? ⟨w.heap.size, 0, none⟩ = some (.slice a l.length cap) := by simp
  have b2 := b_alloc (w.alloc (.cells #[.slice a l.length cap] 22)) (.cells #[.int .i64 index] 3)
  have n2 : ((w.alloc (.cells #[.slice a l.length cap] 22)).alloc (.cells #[.int .i64 index] 3)).cell? ⟨w.heap.size + 1, 0, none⟩ = some (.int .i64 index) := by simp
  have m1 := cell_keep n1 b2
  have r2 := hr.below (below_then b1 b2)
  have he : ∀ args w, (callFunc 47 args).run Tryd.prog w = .ok (.enter 47 args) w := enters_of Tryd.func47 (by kernel_rfl) rfl
  have HB := hide (below_then b1 b2)
  have hcnt := search_cnt hs index
  have HS := hide (fun (W4 : World) (hW : W4 = (w.alloc (.cells #[.slice a l.length cap] 22)).alloc (.cells #[.int .i64 index] 3)) =>
    searchE 47 #[.pointer (some ⟨w.heap.size, 0, none⟩), .pointer (some ⟨w.heap.size + 1, 0, none⟩)] (fun k => decide (index ≤ (l.getD k (0, [])).1)) l.length (fun W => Below W4.heap.size W4 W) W4 hl (Below.refl _ _) (fun _ _ h1 h2 => below_then h1 h2) he (fun k W hk hW' => by
      subst hW
      obtain ⟨b, off, rfl, hc⟩ := (r2.below hW').at hk
      exact (seekE b off cap l index k _ _ W hk hc (cell_keep m1 hW') (cell_keep n2 hW')).mono (fun e W' hh => ⟨hh.1, below_then hW' hh.2⟩)))
  rw [hcnt] at HS
  clear hcnt b1 b2 n1 n2 m1 r2 hr hs
  go_enter Tryd.func36, Tryd.ntmps36
  go_wp2_with fail
  refine (unhide HS _ rfl).mono ?_
  rintro e w2 ⟨rfl, hb⟩
  have HB2 := hide (below_then (unhide HB) hb)
  clear hb
  go_wp2
  go_ret
  exact ⟨rfl, unhide HB2⟩

set_option maxHeartbeats 2000000 in
theorem touched_any (a : Option Addr) (cap : Nat) (l : List Pc) (from' to : Int) (w : World) (hr : Ps w a l) (hs : Sorted l) (hl : l.length ≤ 1000000) (h0 : 0 ≤ from') (h1 : from' ≤ to) (h2 : to ≤ 4611686018427387904) :
    Calls Tryd.prog 26 #[.slice a l.length cap, .int .i64 from', .int .i64 to] w fun e w' => e = .returned (.tuple #[.int .i64 (cntB l (from' / 64) : Int), .int .i64 (cntB l ((to + 63) / 64) : Int)]) ∧ Below w.heap.size w w' := by
  have HS := hide (fun i W (hW : Below w.heap.size w W) => seek_any a cap l i W (hr.below hW) hs hl)
  have HP := hide (fun W => places_any to W (by omega) h2)
  have hq : from'.tdiv 64 = from' / 64 := Int.tdiv_eq_ediv_of_nonneg h0
  clear hr hs
  go_enter Tryd.func26, Tryd.ntmps26
  go_wp2_with fail
  refine (unhide HS _ _ (Below.refl _ _)).mono ?_
  rintro e w1 ⟨rfl, hb1⟩
  have HB1 := hide hb1
  clear hb1
  go_wp2_with fail
  refine (unhide HP _).mono ?_
  rintro e w2 ⟨rfl, rfl⟩
  go_wp2_with fail
  refine (unhide HS _ _ (unhide HB1)).mono ?_
  rintro e w3 ⟨rfl, hb3⟩
  have HB3 := hide (below_then (unhide HB1) hb3)
  clear hb3
  go_wp2
  go_ret2
  exact ⟨rfl, unhide HB3⟩
end Go.Proofs.YtmpgaecnibakdaaDoor
