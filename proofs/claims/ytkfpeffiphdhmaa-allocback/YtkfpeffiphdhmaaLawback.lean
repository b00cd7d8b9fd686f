/- The law AllocBack. -/
import Derived.Test.YtkfpeffiphdhmaaTake
import Derived.Test.YtkfpeffiphdhmaaArgs
namespace Go.Proofs.Ytkfpeffiphdhmaa
open Go.ChangeShapes Go.WideShapes Go.ChangeAt Go.RowKit Go.Maps

theorem takeM_length (l : List St) (gen : Int) : (takeM l gen).length = l.length := by
  unfold takeM
  split
  · exact List.length_set
  · rfl
theorem markM_length (fr : Nat) (l : List St) (n gen : Int) : (markM fr l n gen).length = l.length := by
  unfold markM
  split
  · exact upd_length _ _ _ _
  · rfl
theorem holdM_length (fr : Nat) (l : List St) (n : Int) : (holdM fr l n).length = l.length := by
  unfold holdM
  split
  · rfl
  · exact upd_length _ _ _ _
theorem dropM_length (fr : Nat) (l : List St) (n gen : Int) : (dropM fr l n gen).length = l.length := upd_length _ _ _ _
theorem freeM_length (l : List St) (gen : Int) : (freeM l gen).length = l.length := List.length_map _

/-- nobody holds any of the first k -/
def Dropped (l : List St) (k : Nat) : Prop := ∀ (i : Nat) (s : St), i < k → l[i]? = some s → cntS s = 0
theorem room_wait : ∀ (l : List St), Dropped l l.length → room l + waiting l = l.length
  | [], _ => rfl
  | s :: r, h => by
    have ih := room_wait r (fun i x hi hx => h (i + 1) x (by simpa using hi) (by simpa using hx))
    have h0 := h 0 s (by simp) rfl
    unfold room waiting at *
    rw [List.countP_cons, List.countP_cons, List.length_cons]
    match s, h0 with
    | none, _ => simp [freeS, waitS]; omega
    | some (0, g), _ => simp [freeS, waitS]; omega
theorem free_all : ∀ (l : List St), (∀ s ∈ l, goodS s) → freeN l 9223372036854775807 = waiting l
  | [], _ => rfl
  | s :: r, h => by
    have ih := free_all r (fun x hx => h x (List.mem_cons_of_mem _ hx))
    have h0 := h s List.mem_cons_self
    unfold freeN waiting at *
    rw [List.countP_cons, List.countP_cons, ih]
    match s, h0 with
    | none, _ => simp [dueS, waitS]
    | some (c + 1, g), _ => simp [dueS, waitS]
    | some (0, g), h0 =>
      have : g ≤ 9223372036854775807 := h0.2.2
      simp [dueS, waitS, this]
theorem freed_all : ∀ (l : List St), Dropped l l.length → (∀ s ∈ l, goodS s) → freeM l 9223372036854775807 = List.replicate l.length none
  | [], _, _ => rfl
  | s :: r, hd, h => by
    have ih := freed_all r (fun i x hi hx => hd (i + 1) x (by simpa using hi) (by simpa using hx)) (fun x hx => h x (List.mem_cons_of_mem _ hx))
    have h0 := hd 0 s (by simp) rfl
    have h1 := h s List.mem_cons_self
    unfold freeM at *
    rw [List.map_cons, ih, List.length_cons, List.replicate_succ]
    congr 1
    match s, h0, h1 with
    | none, _, _ => rfl
    | some (0, g), _, h1 =>
      have : g ≤ 9223372036854775807 := h1.2.2
      simp [freedS, dueS, this]
theorem room_new (k : Nat) : room (List.replicate k none) = k := by
  induction k with
  | zero => rfl
  | succ k ih => unfold room at *; rw [List.replicate_succ, List.countP_cons, ih]; rfl
theorem waiting_new (k : Nat) : waiting (List.replicate k none) = 0 := by
  induction k with
  | zero => rfl
  | succ k ih => unfold waiting at *; rw [List.replicate_succ, List.countP_cons, ih]; rfl
theorem drop_cnt (s : St) (gen : Int) : cntS (dropS gen s) = cntS s - 1 := by
  unfold dropS
  split
  · split <;> rfl
  · rfl
  · rename_i h1 h2
    match s, h1, h2 with
    | none, _, _ => rfl
    | some (0, g), _, _ => rfl
    | some (1, g), h1, _ => exact absurd rfl (h1 g)
    | some (c + 2, g), _, h2 => exact absurd rfl (h2 c g)
theorem Dropped.upd {l : List St} {k : Nat} {n : Nat} (h : Dropped l k) (hn : k ≤ n) (s : St) : Dropped (upd 0 l (n : Int) s) k := by
  intro i x hi hx
  unfold Go.Proofs.Ytkfpeffiphdhmaa.upd at hx
  split at hx
  · have e : ix 0 (n : Int) = n := by unfold ix; omega
    rw [e, List.getElem?_set_ne (by omega)] at hx
    exact h i x hi hx
  · exact h i x hi hx

/-- how many hold a sector, read off the world -/
theorem count_mu (d b fr : Nat) (n : Int) (hn : I64 n) : ∃ mu : World → Nat, ∀ w l, AllocAt w d b fr l → mu w = cntS (sec fr l n) := by
  have key : ∀ w : World, ∃ c : Nat, ∀ l, AllocAt w d b fr l → c = cntS (sec fr l n) := by
    intro w
    by_cases h : ∃ l, AllocAt w d b fr l
    · obtain ⟨l0, h0⟩ := h
      refine ⟨cntS (sec fr l0 n), fun l hl => ?_⟩
      have e0 := (h0.map.look_any hn).2
      have e1 := (hl.map.look_any hn).2
      rw [e0, secV_eq, secV_eq] at e1
      simp at e1
      omega
    · exact ⟨0, fun l hl => absurd ⟨l, hl⟩ h⟩
  obtain ⟨mu, hmu⟩ := Classical.axiomOfChoice key
  exact ⟨mu, hmu⟩

variable {W w w' : World} {d b fr : Nat} {l : List St}

/-- a round of the law's first loop -/
structure Rnd (W w : World) (d b S : Nat) : Prop where
  s : ∃ l, Stp W w d b 0 l ∧ l.length = S

set_option maxHeartbeats 8000000 in
set_option maxRecDepth 20000 in
theorem back_walk (f : Nat → Cl) (n : Int) (a : Option Addr) (len cap : Nat) (W : World) (h : IsCalls W a len f) :
    Calls Try.prog 5 #[.int .i64 n, .slice a len cap] W fun e w' => e = .returned (.bool true) ∧ Below W.heap.size W w' := by
  have HI := hide h
  clear h
  go_enter Try.func5, Try.ntmps5
  go_wp2_with fail
  refine (awake_any W).mono ?_
  rintro e w1 ⟨rfl, hb1⟩
  have HB1 := hide hb1
  clear hb1
  by_cases g1 : n < 0
  · go_wp2
    go_ret
    exact ⟨rfl, unhide HB1⟩
  by_cases g2 : 40 < n
  · go_wp2
    go_ret
    exact ⟨rfl, unhide HB1⟩
  by_cases g3 : 200 < (len : Int)
  · go_wp2
    go_ret
    exact ⟨rfl, unhide HB1⟩
  obtain ⟨S, rfl⟩ : ∃ S : Nat, n = (S : Int) := ⟨n.toNat, by omega⟩
  have hS : S ≤ 40 := by omega
  have hlen : len ≤ 200 := by omega
  have HN : Hid (Calls Try.prog 9 #[.int .i64 0, .int .i64 (S : Int)] w1 fun e w' => ∃ d b, e = .returned (.tuple #[.pointer (some ⟨d, 0, none⟩), .int .i64 0]) ∧ AllocAt w' d b 0 (newM 0 S) ∧ Below w1.heap.size w1 w' ∧ w1.heap.size ≤ d ∧ w1.heap.size ≤ b) := new_ok 0 S w1 (Nat.zero_le _) (by omega)
  go_wp2_with fail
  refine (unhide HN).mono ?_
  rintro e w2 ⟨d, b, rfl, hA, hb, _, hnb⟩
  have HR : Hid (Rnd W w2 d b S) := ⟨newM 0 S, ⟨hA, (unhide HB1).trans (hb.mono (unhide HB1).size), Nat.le_trans (unhide HB1).size hnb⟩, by unfold newM; rw [List.length_replicate]; omega⟩
  clear hA hb hnb HN HB1
  go_wp2_with fail
  go_loopw [7] (fun v wr => ∃ k : Nat, k ≤ len ∧ v = .int .i64 (k : Int) ∧ Rnd W wr d b S) (fun v _ => len - (intOf v).toNat)
  case atStart => exact ⟨0, Nat.zero_le _, rfl, unhide HR⟩
  case round =>
    obtain ⟨k, hk, rfl, hR⟩ := hrel
    clear HR
    obtain ⟨l, hS1, hl⟩ := hR.s
    have HS1 := hide hS1
    have HL := hide hl
    clear hR hS1 hl
    by_cases hlt : k < len
    · have hlt' : (k : Int) < (len : Int) := by omega
      obtain ⟨_, h0 | ⟨bk, off, rfl, hc⟩⟩ := unhide HI
      · omega
      have hck := (hc k hlt).grow (unhide HS1).bel (Nat.le_refl _)
      have c0 := hck.c0
      have c1 := hck.c1
      have c2 := hck.c2
      have HBD := hide (And.intro hck.bn hck.bg)
      have HSA := hide ((unhide HS1).grow ((Below.refl _ wr).alloc (Nat.le_refl _) (.cells #[.int .i64 (f k).k, .int .i64 (f k).n, .int .i64 (f k).g] 32)))
      clear hc hck HS1
      generalize (f k).k = ck at *
      generalize (f k).n = cn at *
      generalize (f k).g = cg at *
      by_cases k0 : ck = 0
      · subst k0
        go_wp2_with fail
        refine (take_any cg (unhide HBD).2 _ (unhide HSA).al).mono ?_
        rintro e w3 ⟨rfl, hA3, hm3⟩
        have HR3 : Hid (Rnd W w3 d b S) := ⟨_, (unhide HSA).turn hA3 hm3, by rw [takeM_length]; exact unhide HL⟩
        clear hA3 hm3
        go_wp2
        go_roundw
        case rel => exact ⟨k + 1, by omega, by go_num, unhide HR3⟩
        case measure => simp [intOf]; omega
      by_cases k1 : ck = 1
      · subst k1
        go_wp2_with fail
        refine (mark_any cn cg _ (unhide HSA).al (unhide HBD).1 (unhide HBD).2).mono ?_
        rintro e w3 ⟨rfl, hA3, hm3⟩
        have HR3 : Hid (Rnd W w3 d b S) := ⟨_, (unhide HSA).turn hA3 hm3, by rw [markM_length]; exact unhide HL⟩
        clear hA3 hm3
        go_wp2
        go_roundw
        case rel => exact ⟨k + 1, by omega, by go_num, unhide HR3⟩
        case measure => simp [intOf]; omega
      by_cases k2 : ck = 2
      · subst k2
        go_wp2_with fail
        refine (hold_any cn _ (unhide HSA).al (unhide HBD).1).mono ?_
        rintro e w3 ⟨rfl, hA3, hm3⟩
        have HR3 : Hid (Rnd W w3 d b S) := ⟨_, (unhide HSA).turn hA3 hm3, by rw [holdM_length]; exact unhide HL⟩
        clear hA3 hm3
        go_wp2
        go_roundw
        case rel => exact ⟨k + 1, by omega, by go_num, unhide HR3⟩
        case measure => simp [intOf]; omega
      by_cases k3 : ck = 3
      · subst k3
        go_wp2_with fail
        refine (drop_any cn cg _ (unhide HSA).al (unhide HBD).1 (unhide HBD).2).mono ?_
        rintro e w3 ⟨rfl, hA3, hm3⟩
        have HR3 : Hid (Rnd W w3 d b S) := ⟨_, (unhide HSA).turn hA3 hm3, by rw [dropM_length]; exact unhide HL⟩
        clear hA3 hm3
        go_wp2
        go_roundw
        case rel => exact ⟨k + 1, by omega, by go_num, unhide HR3⟩
        case measure => simp [intOf]; omega
      have HR3 : Hid (Rnd W _ d b S) := ⟨_, unhide HSA, unhide HL⟩
      go_wp2
      go_roundw
      case rel => exact ⟨k + 1, by omega, by go_num, unhide HR3⟩
      case measure => simp [intOf]; omega
    · have hlt' : ¬ (k : Int) < (len : Int) := by omega
      go_wp2_with fail
      go_loopw [9] (fun v wr => ∃ (m : Nat) (l : List St), m ≤ S ∧ v = .int .i64 (m : Int) ∧ Stp W wr d b 0 l ∧ l.length = S ∧ Dropped l m) (fun v _ => S - (intOf v).toNat)
      case atStart => exact ⟨0, l, Nat.zero_le _, rfl, unhide HS1, unhide HL, fun i s hi => absurd hi (Nat.not_lt_zero _)⟩
      case round =>
        clear HS1 HL
        obtain ⟨m, l, hm, rfl, hS1, hl, hdr⟩ := hrel
        have HS1 := hide hS1
        have HL := hide hl
        have HD := hide hdr
        clear hS1 hl hdr
        by_cases hlt2 : m < S
        · have hlt2' : (m : Int) < (S : Int) := by omega
          have hm64 : Hid (I64 (m : Int)) := by show I64 (m : Int); unfold I64; omega
          obtain ⟨mu, hmu⟩ := count_mu d b 0 (m : Int) (unhide hm64)
          have HMU := hide hmu
          clear hmu
          go_wp2_with fail
          go_loopw [76] (fun _ wr => ∃ l : List St, Stp W wr d b 0 l ∧ l.length = S ∧ Dropped l m) (fun _ wr => mu wr)
          case atStart => exact ⟨l, unhide HS1, unhide HL, unhide HD⟩
          case round =>
            clear HS1 HL HD
            obtain ⟨l, hS1, hl, hdr⟩ := hrel
            have hin : Hid (In 0 l (m : Int)) := by show In 0 l (m : Int); unfold In; omega
            have HS1 := hide hS1
            have HL := hide hl
            have HD := hide hdr
            have HC := hide (count_is (c := cntS (sec 0 l (m : Int))) (unhide hm64) wr hS1.al rfl)
            clear hS1 hl hdr
            go_wp2_with fail
            refine (unhide HC).mono ?_
            rintro e w3 ⟨rfl, hw3⟩
            subst hw3
            by_cases hc : cntS (sec 0 l (m : Int)) = 0
            · rw [hc]
              have HX := hide (drop_free (m : Int) 5 _ (unhide HS1).al (unhide hm64) hc)
              have HY := hide (hold_free (m : Int) _ (unhide HS1).al (unhide hm64) hc)
              have HD2 : Hid (Dropped l (m + 1)) := by
                intro i s hi hs
                by_cases e : i = m
                · subst e
                  have h1 := sec_at (unhide hin)
                  rw [show ix 0 (i : Int) = i by unfold ix; omega, hs] at h1
                  rw [Option.some.inj h1]
                  exact hc
                · exact unhide HD i s (by omega) hs
              clear hc HC
              go_wp2_with (first
                | (go_at_call 17; refine (unhide HX).mono ?_; rintro e w4 ⟨rfl, hw4⟩; subst hw4)
                | (go_at_call 15; refine (unhide HY).mono ?_; rintro e w4 ⟨rfl, hw4⟩; subst hw4))
              go_roundw
              case rel => exact ⟨m + 1, l, by omega, by go_num, unhide HS1, unhide HL, unhide HD2⟩
              case measure => simp [intOf]; omega
            · have hc' : 0 < (cntS (sec 0 l (m : Int)) : Int) := by omega
              have hmu1 := unhide HMU _ _ (unhide HS1).al
              have HMU1 := hide hmu1
              have HCC := hide hc
              have hde : dropE 0 l (m : Int) = 0 := by unfold dropE; rw [if_neg hc]
              have HDE := hide hde
              clear hmu1 hc hde
              generalize (cntS (sec 0 l (m : Int)) : Int) = cc at *
              go_wp2_with fail
              refine (drop_any (m : Int) 5 _ (unhide HS1).al (unhide hm64) (by unfold I64; omega)).mono ?_
              rintro e w4 ⟨rfl, hA4, hm4⟩
              rw [unhide HDE]
              have HS4 := hide ((unhide HS1).turn hA4 hm4)
              clear hA4 hm4
              go_wp2
              go_roundw
              case rel => exact ⟨_, unhide HS4, by rw [dropM_length]; exact unhide HL, (unhide HD).upd (Nat.le_refl _) _⟩
              case measure =>
                have e1 := unhide HMU _ _ (unhide HS4).al
                have e2 := unhide HMU1
                have e3 := unhide HCC
                unfold dropM at e1
                rw [sec_upd (unhide hin), drop_cnt] at e1
                omega
        · have hlt2' : ¬ (m : Int) < (S : Int) := by omega
          have hmS : m = S := by omega
          subst hmS
          have hd2 := unhide HD
          rw [← unhide HL] at hd2
          have hgood := (unhide HS1).al.ok.good
          have f1 := room_wait l hd2
          have f2 := free_all l hgood
          have f3 := freed_all l hd2 hgood
          rw [unhide HL] at f1 f3
          have f4 := room_new m
          have f5 := waiting_new m
          have hw : IntKind.i64.wrap ((room l : Int) + (waiting l : Int)) = (m : Int) := by rw [IntKind.wrap_i64]; omega
          have HF := hide (And.intro f2 (And.intro f3 (And.intro f4 f5)))
          clear hd2 hgood f1 f2 f3 f4 f5
          go_wp2_with fail
          refine (waiting_any _ (unhide HS1).al).mono ?_
          rintro e w3 ⟨rfl, hb3⟩
          have HS3 := hide ((unhide HS1).grow hb3)
          clear hb3
          go_wp2_with fail
          refine (room_any _ (unhide HS3).al).mono ?_
          rintro e w4 ⟨rfl, hb4⟩
          have HS4 := hide ((unhide HS3).grow hb4)
          clear hb4
          go_wp2_with fail
          refine (free_any 9223372036854775807 _ (unhide HS4).al).mono ?_
          rintro e w5 ⟨rfl, hA5, hm5⟩
          have HS5 := hide ((unhide HS4).turn hA5 hm5)
          rw [(unhide HF).1]
          rw [(unhide HF).2.1] at HS5
          clear hA5 hm5
          go_wp2_with fail
          refine (room_any _ (unhide HS5).al).mono ?_
          rintro e w6 ⟨rfl, hb6⟩
          have HS6 := hide ((unhide HS5).grow hb6)
          rw [(unhide HF).2.2.1]
          clear hb6
          go_wp2_with fail
          refine (waiting_any _ (unhide HS6).al).mono ?_
          rintro e w7 ⟨rfl, hb7⟩
          have HS7 := hide ((unhide HS6).grow hb7)
          rw [(unhide HF).2.2.2]
          clear hb7
          go_wp2
          go_ret
          exact ⟨rfl, (unhide HS7).bel⟩
end Go.Proofs.Ytkfpeffiphdhmaa
