/- The walk of the law SparsePlays. -/
import Derived.Test.YtmpgaecnibakdaaDoorLasks
import Derived.Test.YtmpgaecnibakdaaDoorLwrites
namespace Go.Proofs.YtmpgaecnibakdaaDoor
open Go.ChangeShapes Go.WideShapes Go.ChangeAt Go.RowKit
attribute [local go_sem] Oper.semAt_some

theorem two_filters (l : List Pc) (a b : Int) (h : a ≤ b) : (l.filter fun p => decide (p.1 < a)).length + (l.filter fun p => decide (b ≤ p.1)).length ≤ l.length := by
  induction l with
  | nil => simp
  | cons p t ih =>
    by_cases h1 : p.1 < a
    · rw [List.filter_cons_of_pos (by simpa using h1), List.filter_cons_of_neg (by simp; omega), List.length_cons, List.length_cons]
      omega
    · rw [List.filter_cons_of_neg (by simpa using h1)]
      by_cases h2 : b ≤ p.1
      · rw [List.filter_cons_of_pos (by simpa using h2), List.length_cons, List.length_cons]
        omega
      · rw [List.filter_cons_of_neg (by simpa using h2), List.length_cons]
        omega
theorem write_few (l : List Pc) (off : Int) (d : List UInt8) (a : Int) (n : Nat) : (writeR l off d a n).length ≤ l.length + n := by
  unfold writeR
  rw [List.length_append, List.length_append, List.length_map, List.length_range]
  have := two_filters l a (a + n) (by omega)
  omega
theorem wr_few {l : List Pc} {size off : Int} {d : List UInt8} {l' : List Pc} {m : Int} (h : writeA l size off d = (l', m, 0)) (hd : d.length ≤ 300) : l'.length ≤ l.length + 10 := by
  by_cases hc : chkR l size = 0
  case neg => rw [writeA_form hc] at h; cases h
  by_cases ha : off < 0 ∨ 4096 < (d.length : Int)
  · rw [writeA_arg hc ha] at h; cases h
  by_cases hf : 4611686018427387904 - (d.length : Int) < off
  · rw [writeA_far hc ha hf] at h; cases h
  by_cases hv : d = []
  · rw [writeA_none hc ha hf hv] at h
    injection h with h1 h2
    subst h1
    omega
  · rw [writeA_ok hc ha hf hv] at h
    injection h with h1 h2
    subst h1
    have := write_few l off d (off / 64) (manyW off d.length)
    have h3 : manyW off d.length ≤ 10 := by unfold manyW; omega
    omega

theorem Sts.at {w : World} {a : Option Addr} {l : List Stp} (h : Sts w a l) {i : Nat} {x : Stp} (hx : l[i]? = some x) : ∃ b off, a = some ⟨b, off, none⟩ ∧ StAt w b (off + i * 4) x := by
  rcases h with h | ⟨b, off, e, h⟩
  · have := (List.getElem?_eq_some_iff.1 hx).1
    omega
  · exact ⟨b, off, e, h i x hx⟩
theorem right_nil : Right [] 0 := ⟨by omega, by omega, fun p hp => (by cases hp), List.Pairwise.nil⟩

set_option maxHeartbeats 32000000 in
set_option maxRecDepth 10000 in
theorem plays_walk (l : List Stp) (a : Option Addr) (cap : Nat) (w : World) (hr : Sts w a l) (hk : ∀ s ∈ l, s.Ok) (hl : l.length ≤ 9223372036854775807) :
    Calls Tryd.prog 4 #[.slice a l.length cap] w fun e w' => e = .returned (.bool true) ∧ Below w.heap.size w w' := by
  have HA := hide (fun W => awake_any W)
  have HL := hide hr
  have HOK := hide hk
  clear hr hk
  by_cases hn : (60 : Int) < (l.length : Int)
  · go_enter Tryd.func4, Tryd.ntmps4
    go_wp2_with fail
    refine (unhide HA _).mono ?_
    rintro e w1 ⟨rfl, hb⟩
    have HB1 := hide hb
    clear hb HA
    go_wp2
    go_ret
    exact ⟨rfl, unhide HB1⟩
  have hl2 : l.length ≤ 60 := by omega
  have HL2 := hide hl2
  clear hl hl2
  go_enter Tryd.func4, Tryd.ntmps4
  go_wp2_with fail
  refine (unhide HA _).mono ?_
  rintro e w1 ⟨rfl, hb⟩
  have HB1 := hide hb
  clear hb HA
  go_wp2
  go_loopw [3, 4, 5, 6] (fun x y z s wr => ∃ (k : Nat) (L : List Pc) (sz : Int) (al : Option Addr) (cl : Nat) (am : Option Addr) (cm : Nat), k ≤ l.length ∧ x = .slice al L.length cl ∧ y = .slice am L.length cm ∧ z = .int .i64 sz ∧ s = .int .i64 k ∧ L.length ≤ cl ∧ Ps wr al L ∧ Ps wr am L ∧ Right L sz ∧ L.length ≤ 10 * k ∧ Below w.heap.size w wr) (fun _ _ _ s _ => l.length - (intOf s).toNat)
  case atStart => exact ⟨0, [], 0, none, 0, none, 0, Nat.zero_le _, rfl, rfl, rfl, rfl, Nat.le_refl _, Ps.nil _ _, Ps.nil _ _, right_nil, Nat.le_refl _, unhide HB1⟩
  case round =>
    obtain ⟨k, L, sz, al, cl, am, cm, hk, rfl, rfl, rfl, rfl, hcl, hps1, hps2, hri, hlen, hb⟩ := hrel
    have HB := hide hb
    by_cases hlt : k < l.length
    · obtain ⟨⟨K, O, N, D⟩, hx⟩ := get_some hlt
      obtain ⟨b, om, rfl, c0, c1, c2, c3⟩ := ((unhide HL).below hb).at hx
      simp only at c0 c1 c2 c3
      have hok := unhide HOK _ (List.mem_of_getElem? hx)
      have ho2 := hok.o.2
      have hn2 := hok.n.2
      simp only at ho2 hn2
      have hlt' : (k : Int) < (l.length : Int) := by omega
      have hl60 := unhide HL2
      have HLT := hide hlt
      have HRR := hide hri
      have HCL := hide hcl
      have HLL := hide hlen
      have hL6 : L.length ≤ 700 := by omega
      have b1 := b_alloc wr (.cells #[.int .i64 K, .int .i64 O, .int .i64 N, .string (tx D)] 24)
      have n1 := heap_alloc_new wr (.cells #[.int .i64 K, .int .i64 O, .int .i64 N, .string (tx D)] 24)
      have HB5 := hide (below_then hb b1)
      have HA5 := hide (hps1.below b1)
      have HM5 := hide (hps2.below b1)
      generalize hW : wr.alloc (.cells #[.int .i64 K, .int .i64 O, .int .i64 N, .string (tx D)] 24) = w5 at *
      obtain ⟨q, hq⟩ : ∃ q, q = wr.heap.size := ⟨_, rfl⟩
      have d0 : w5.cell? ⟨wr.heap.size, 0, none⟩ = some (.int .i64 K) := (cell_of_row w5 _ 0 _ _ _ n1).trans rfl
      have d1 : w5.cell? ⟨wr.heap.size, 1, none⟩ = some (.int .i64 O) := (cell_of_row w5 _ 1 _ _ _ n1).trans rfl
      have d2 : w5.cell? ⟨wr.heap.size, 2, none⟩ = some (.int .i64 N) := (cell_of_row w5 _ 2 _ _ _ n1).trans rfl
      have d3 : w5.cell? ⟨wr.heap.size, 3, none⟩ = some (.string (tx D)) := (cell_of_row w5 _ 3 _ _ _ n1).trans rfl
      have KS : Hid (∀ W, Below w5.heap.size w5 W → W.cell? ⟨q, 0, none⟩ = some (.int .i64 K) ∧ W.cell? ⟨q, 1, none⟩ = some (.int .i64 O) ∧ W.cell? ⟨q, 2, none⟩ = some (.int .i64 N) ∧ W.cell? ⟨q, 3, none⟩ = some (.string (tx D))) := fun W hW => by
        rw [hq]
        exact ⟨cell_keep d0 hW, cell_keep d1 hW, cell_keep d2 hW, cell_keep d3 hW⟩
      clear hx hok HB1 hri hlen hps1 hps2 hb b1 n1 HB
      by_cases h300 : (300 : Int) < ((tx D).size : Int)
      · clear HA5 HM5 KS
        go_wp2
        clear hW hq
        go_ret
        exact ⟨rfl, unhide HB5⟩
      have hsz := tx_size D
      have hD : D.length ≤ 300 := by omega
      have hdd : ∀ p ∈ L, p.2.length ≤ 10000 := fun p hp => by have := ((unhide HRR).ok p hp).2.2.1; omega
      have hc := chk_right (unhide HRR)
      by_cases k0 : K = 0
      · subst k0
        have HW1 := hide (fun W (hW : Ps W al L) => write_any al cl L sz O D W hW hcl (by omega) hdd ho2 (by omega))
        have HW2 := hide (fun W (hW : Ps W am L) => writeD_any am cm L sz O D W hW (by omega) hdd ho2 (by omega))
        unfold Ans3 at HW1 HW2
        rcases wr_cases L sz O D with ⟨er, her, hwa⟩ | ⟨L', m, hwa⟩
        · rw [hwa] at HW1 HW2
          simp only at HW1 HW2
          clear hwa hD hsz hdd hc hcl hL6 hlt
          rcases her with rfl | rfl | rfl
          · have HRI : Hid (Right L sz) := unhide HRR
            have HLN : Hid (L.length ≤ 10 * (k + 1)) := by have := unhide HLL; rw [hide_eq]; omega
            have HSS : Hid (∀ W A A' C C', Ps W A L → Ps W A' L → Calls Tryd.prog 16 #[.slice A L.length C, .slice A' L.length C'] W fun e w' => e = .returned (.bool true) ∧ Below W.heap.size W w') := fun W A A' C C' h h' => same_self A A' C C' L W h h' (by have := unhide HLN; omega)
            have HCK : Hid (∀ W A C, Ps W A L → Calls Tryd.prog 17 #[.slice A L.length C, .int .i64 sz] W fun e w' => e = .returned (.int .i64 0) ∧ Below W.heap.size W w') := fun W A C h => by
              have := chk_any A C L sz W h (by have := unhide HLN; omega) (fun p hp => by have := ((unhide HRI).ok p hp).2.2.1; omega)
              rw [chk_right (unhide HRI)] at this
              exact this
            clear HRR
            go_wp2_with fail
            rw [← hq] at d0 d1 d2 d3 ⊢
            clear hW hq d0 d1 d2 d3
            refine (unhide HW1 _ (unhide HA5)).mono ?_
            rintro e w6 ⟨⟨v, rfl, ho⟩, hb⟩
            have HB6 := hide (below_then (unhide HB5) hb)
            have HK6 := hide (show Below w5.heap.size w5 w6 from hb)
            have HA6 := hide ((unhide HA5).below hb)
            have HM6 := hide ((unhide HM5).below hb)
            obtain ⟨c0, c1, c2, c3⟩ := unhide KS _ hb
            obtain ⟨a6, c6, rfl⟩ := ho.form
            have HV6 := hide (OwnP.ps ho)
            have HC6 := hide (OwnP.cap ho)
            clear ho
            clear hb HA5 HM5 HB5
            go_wp2_with fail
            clear c0 c1 c2 c3
            refine (unhide HW2 _ (unhide HM6)).mono ?_
            rintro e w7 ⟨⟨v, rfl, ho⟩, hb⟩
            have HB7 := hide (below_then (unhide HB6) hb)
            have HA7 := hide ((unhide HA6).below hb)
            have HM7 := hide ((unhide HM6).below hb)
            have HV7 := hide ((unhide HV6).below hb)
            obtain ⟨a7, c7, rfl⟩ := ho.form
            have HU7 := hide (OwnP.ps ho)
            clear ho HV6
            clear hb HA6 HM6 HB6 HK6 KS
            go_wp2_with fail
            refine (unhide HSS _ _ _ _ _ (unhide HA7) (unhide HM7)).mono ?_
            rintro e w8 ⟨rfl, hb⟩
            have HB8 := hide (below_then (unhide HB7) hb)
            have HA8 := hide ((unhide HA7).below hb)
            have HM8 := hide ((unhide HM7).below hb)
            clear hb HB7 HA7 HM7 
            go_wp2_with fail
            refine (unhide HCK _ _ _ (unhide HA8)).mono ?_
            rintro e w9 ⟨rfl, hb⟩
            have HB9 := hide (below_then (unhide HB8) hb)
            have HA9 := hide ((unhide HA8).below hb)
            have HM9 := hide ((unhide HM8).below hb)
            clear hb HB8 HA8 HM8
            go_wp2
            go_roundw
            case rel => exact ⟨k + 1, L, sz, _, _, _, _, by have := unhide HLT; omega, rfl, rfl, rfl, by go_num, unhide HCL, unhide HA9, unhide HM9, unhide HRI, unhide HLN, unhide HB9⟩
            case measure => have := unhide HLT; simp [intOf] <;> omega
          · have HRI : Hid (Right L sz) := unhide HRR
            have HLN : Hid (L.length ≤ 10 * (k + 1)) := by have := unhide HLL; rw [hide_eq]; omega
            have HSS : Hid (∀ W A A' C C', Ps W A L → Ps W A' L → Calls Tryd.prog 16 #[.slice A L.length C, .slice A' L.length C'] W fun e w' => e = .returned (.bool true) ∧ Below W.heap.size W w') := fun W A A' C C' h h' => same_self A A' C C' L W h h' (by have := unhide HLN; omega)
            have HCK : Hid (∀ W A C, Ps W A L → Calls Tryd.prog 17 #[.slice A L.length C, .int .i64 sz] W fun e w' => e = .returned (.int .i64 0) ∧ Below W.heap.size W w') := fun W A C h => by
              have := chk_any A C L sz W h (by have := unhide HLN; omega) (fun p hp => by have := ((unhide HRI).ok p hp).2.2.1; omega)
              rw [chk_right (unhide HRI)] at this
              exact this
            clear HRR
            go_wp2_with fail
            rw [← hq] at d0 d1 d2 d3 ⊢
            clear hW hq d0 d1 d2 d3
            refine (unhide HW1 _ (unhide HA5)).mono ?_
            rintro e w6 ⟨⟨v, rfl, ho⟩, hb⟩
            have HB6 := hide (below_then (unhide HB5) hb)
            have HK6 := hide (show Below w5.heap.size w5 w6 from hb)
            have HA6 := hide ((unhide HA5).below hb)
            have HM6 := hide ((unhide HM5).below hb)
            obtain ⟨c0, c1, c2, c3⟩ := unhide KS _ hb
            obtain ⟨a6, c6, rfl⟩ := ho.form
            have HV6 := hide (OwnP.ps ho)
            have HC6 := hide (OwnP.cap ho)
            clear ho
            clear hb HA5 HM5 HB5
            go_wp2_with fail
            clear c0 c1 c2 c3
            refine (unhide HW2 _ (unhide HM6)).mono ?_
            rintro e w7 ⟨⟨v, rfl, ho⟩, hb⟩
            have HB7 := hide (below_then (unhide HB6) hb)
            have HA7 := hide ((unhide HA6).below hb)
            have HM7 := hide ((unhide HM6).below hb)
            have HV7 := hide ((unhide HV6).below hb)
            obtain ⟨a7, c7, rfl⟩ := ho.form
            have HU7 := hide (OwnP.ps ho)
            clear ho HV6
            clear hb HA6 HM6 HB6 HK6 KS
            go_wp2_with fail
            refine (unhide HSS _ _ _ _ _ (unhide HA7) (unhide HM7)).mono ?_
            rintro e w8 ⟨rfl, hb⟩
            have HB8 := hide (below_then (unhide HB7) hb)
            have HA8 := hide ((unhide HA7).below hb)
            have HM8 := hide ((unhide HM7).below hb)
            clear hb HB7 HA7 HM7 
            go_wp2_with fail
            refine (unhide HCK _ _ _ (unhide HA8)).mono ?_
            rintro e w9 ⟨rfl, hb⟩
            have HB9 := hide (below_then (unhide HB8) hb)
            have HA9 := hide ((unhide HA8).below hb)
            have HM9 := hide ((unhide HM8).below hb)
            clear hb HB8 HA8 HM8
            go_wp2
            go_roundw
            case rel => exact ⟨k + 1, L, sz, _, _, _, _, by have := unhide HLT; omega, rfl, rfl, rfl, by go_num, unhide HCL, unhide HA9, unhide HM9, unhide HRI, unhide HLN, unhide HB9⟩
            case measure => have := unhide HLT; simp [intOf] <;> omega
          · have HRI : Hid (Right L sz) := unhide HRR
            have HLN : Hid (L.length ≤ 10 * (k + 1)) := by have := unhide HLL; rw [hide_eq]; omega
            have HSS : Hid (∀ W A A' C C', Ps W A L → Ps W A' L → Calls Tryd.prog 16 #[.slice A L.length C, .slice A' L.length C'] W fun e w' => e = .returned (.bool true) ∧ Below W.heap.size W w') := fun W A A' C C' h h' => same_self A A' C C' L W h h' (by have := unhide HLN; omega)
            have HCK : Hid (∀ W A C, Ps W A L → Calls Tryd.prog 17 #[.slice A L.length C, .int .i64 sz] W fun e w' => e = .returned (.int .i64 0) ∧ Below W.heap.size W w') := fun W A C h => by
              have := chk_any A C L sz W h (by have := unhide HLN; omega) (fun p hp => by have := ((unhide HRI).ok p hp).2.2.1; omega)
              rw [chk_right (unhide HRI)] at this
              exact this
            clear HRR
            go_wp2_with fail
            rw [← hq] at d0 d1 d2 d3 ⊢
            clear hW hq d0 d1 d2 d3
            refine (unhide HW1 _ (unhide HA5)).mono ?_
            rintro e w6 ⟨⟨v, rfl, ho⟩, hb⟩
            have HB6 := hide (below_then (unhide HB5) hb)
            have HK6 := hide (show Below w5.heap.size w5 w6 from hb)
            have HA6 := hide ((unhide HA5).below hb)
            have HM6 := hide ((unhide HM5).below hb)
            obtain ⟨c0, c1, c2, c3⟩ := unhide KS _ hb
            obtain ⟨a6, c6, rfl⟩ := ho.form
            have HV6 := hide (OwnP.ps ho)
            have HC6 := hide (OwnP.cap ho)
            clear ho
            clear hb HA5 HM5 HB5
            go_wp2_with fail
            clear c0 c1 c2 c3
            refine (unhide HW2 _ (unhide HM6)).mono ?_
            rintro e w7 ⟨⟨v, rfl, ho⟩, hb⟩
            have HB7 := hide (below_then (unhide HB6) hb)
            have HA7 := hide ((unhide HA6).below hb)
            have HM7 := hide ((unhide HM6).below hb)
            have HV7 := hide ((unhide HV6).below hb)
            obtain ⟨a7, c7, rfl⟩ := ho.form
            have HU7 := hide (OwnP.ps ho)
            clear ho HV6
            clear hb HA6 HM6 HB6 HK6 KS
            go_wp2_with fail
            refine (unhide HSS _ _ _ _ _ (unhide HA7) (unhide HM7)).mono ?_
            rintro e w8 ⟨rfl, hb⟩
            have HB8 := hide (below_then (unhide HB7) hb)
            have HA8 := hide ((unhide HA7).below hb)
            have HM8 := hide ((unhide HM7).below hb)
            clear hb HB7 HA7 HM7 
            go_wp2_with fail
            refine (unhide HCK _ _ _ (unhide HA8)).mono ?_
            rintro e w9 ⟨rfl, hb⟩
            have HB9 := hide (below_then (unhide HB8) hb)
            have HA9 := hide ((unhide HA8).below hb)
            have HM9 := hide ((unhide HM8).below hb)
            clear hb HB8 HA8 HM8
            go_wp2
            go_roundw
            case rel => exact ⟨k + 1, L, sz, _, _, _, _, by have := unhide HLT; omega, rfl, rfl, rfl, by go_num, unhide HCL, unhide HA9, unhide HM9, unhide HRI, unhide HLN, unhide HB9⟩
            case measure => have := unhide HLT; simp [intOf] <;> omega
        · have hfew := wr_few hwa hD
          have hwo := wr_ok hwa
          rw [hwa] at HW1 HW2
          simp only at HW1 HW2
          have HRI0 := hide hwo.now
          have HFW := hide hfew
          clear hwa hwo hfew hD hsz hdd hc hcl hL6 hlt
          have HRI : Hid (Right L' m) := unhide HRI0
          have HLN : Hid (L'.length ≤ 10 * (k + 1)) := by have := unhide HFW; have := unhide HLL; rw [hide_eq]; omega
          have HSS : Hid (∀ W A A' C C', Ps W A L' → Ps W A' L' → Calls Tryd.prog 16 #[.slice A L'.length C, .slice A' L'.length C'] W fun e w' => e = .returned (.bool true) ∧ Below W.heap.size W w') := fun W A A' C C' h h' => same_self A A' C C' L' W h h' (by have := unhide HLN; omega)
          have HCK : Hid (∀ W A C, Ps W A L' → Calls Tryd.prog 17 #[.slice A L'.length C, .int .i64 m] W fun e w' => e = .returned (.int .i64 0) ∧ Below W.heap.size W w') := fun W A C h => by
            have := chk_any A C L' m W h (by have := unhide HLN; omega) (fun p hp => by have := ((unhide HRI).ok p hp).2.2.1; omega)
            rw [chk_right (unhide HRI)] at this
            exact this
          clear HRR
          go_wp2_with fail
          rw [← hq] at d0 d1 d2 d3 ⊢
          clear hW hq d0 d1 d2 d3
          refine (unhide HW1 _ (unhide HA5)).mono ?_
          rintro e w6 ⟨⟨v, rfl, ho⟩, hb⟩
          have HB6 := hide (below_then (unhide HB5) hb)
          have HK6 := hide (show Below w5.heap.size w5 w6 from hb)
          have HA6 := hide ((unhide HA5).below hb)
          have HM6 := hide ((unhide HM5).below hb)
          obtain ⟨c0, c1, c2, c3⟩ := unhide KS _ hb
          obtain ⟨a6, c6, rfl⟩ := ho.form
          have HV6 := hide (OwnP.ps ho)
          have HC6 := hide (OwnP.cap ho)
          clear ho
          clear hb HA5 HM5 HB5
          go_wp2_with fail
          clear c0 c1 c2 c3
          refine (unhide HW2 _ (unhide HM6)).mono ?_
          rintro e w7 ⟨⟨v, rfl, ho⟩, hb⟩
          have HB7 := hide (below_then (unhide HB6) hb)
          have HA7 := hide ((unhide HA6).below hb)
          have HM7 := hide ((unhide HM6).below hb)
          have HV7 := hide ((unhide HV6).below hb)
          obtain ⟨a7, c7, rfl⟩ := ho.form
          have HU7 := hide (OwnP.ps ho)
          clear ho HV6
          clear hb HA6 HM6 HB6 HK6 KS
          go_wp2_with fail
          refine (unhide HSS _ _ _ _ _ (unhide HV7) (unhide HU7)).mono ?_
          rintro e w8 ⟨rfl, hb⟩
          have HB8 := hide (below_then (unhide HB7) hb)
          have HA8 := hide ((unhide HV7).below hb)
          have HM8 := hide ((unhide HU7).below hb)
          clear hb HB7 HA7 HM7 HV7 HU7
          go_wp2_with fail
          refine (unhide HCK _ _ _ (unhide HA8)).mono ?_
          rintro e w9 ⟨rfl, hb⟩
          have HB9 := hide (below_then (unhide HB8) hb)
          have HA9 := hide ((unhide HA8).below hb)
          have HM9 := hide ((unhide HM8).below hb)
          clear hb HB8 HA8 HM8
          go_wp2
          go_roundw
          case rel => exact ⟨k + 1, L', m, _, _, _, _, by have := unhide HLT; omega, rfl, rfl, rfl, by go_num, unhide HC6, unhide HA9, unhide HM9, unhide HRI, unhide HLN, unhide HB9⟩
          case measure => have := unhide HLT; simp [intOf] <;> omega
      have k0' : (K == 0) = false := beq_eq_false_iff_ne.2 k0
      by_cases k1 : K = 1
      · subst k1
        have HW1 := hide (fun W (hW : Ps W al L) => trunc_any al cl L sz N W hW hcl (by omega) hdd)
        have HW2 := hide (fun W (hW : Ps W am L) => truncD_any am cm L sz N W hW (by omega) hdd)
        unfold Ans3 at HW1 HW2
        by_cases t1 : N < 0
        · rw [truncA_arg hc t1] at HW1 HW2
          simp only at HW1 HW2
          clear hD hsz hdd hc hcl hL6 hlt
          have HRI : Hid (Right L sz) := unhide HRR
          have HLN : Hid (L.length ≤ 10 * (k + 1)) := by have := unhide HLL; rw [hide_eq]; omega
          have HSS : Hid (∀ W A A' C C', Ps W A L → Ps W A' L → Calls Tryd.prog 16 #[.slice A L.length C, .slice A' L.length C'] W fun e w' => e = .returned (.bool true) ∧ Below W.heap.size W w') := fun W A A' C C' h h' => same_self A A' C C' L W h h' (by have := unhide HLN; omega)
          have HCK : Hid (∀ W A C, Ps W A L → Calls Tryd.prog 17 #[.slice A L.length C, .int .i64 sz] W fun e w' => e = .returned (.int .i64 0) ∧ Below W.heap.size W w') := fun W A C h => by
            have := chk_any A C L sz W h (by have := unhide HLN; omega) (fun p hp => by have := ((unhide HRI).ok p hp).2.2.1; omega)
            rw [chk_right (unhide HRI)] at this
            exact this
          clear HRR
          go_wp2_with fail
          rw [← hq] at d0 d1 d2 d3 ⊢
          clear hW hq d0 d1 d2 d3
          refine (unhide HW1 _ (unhide HA5)).mono ?_
          rintro e w6 ⟨⟨v, rfl, ho⟩, hb⟩
          have HB6 := hide (below_then (unhide HB5) hb)
          have HK6 := hide (show Below w5.heap.size w5 w6 from hb)
          have HA6 := hide ((unhide HA5).below hb)
          have HM6 := hide ((unhide HM5).below hb)
          obtain ⟨c0, c1, c2, c3⟩ := unhide KS _ hb
          obtain ⟨a6, c6, rfl⟩ := ho.form
          have HV6 := hide (OwnP.ps ho)
          have HC6 := hide (OwnP.cap ho)
          clear ho
          clear hb HA5 HM5 HB5
          go_wp2_with fail
          clear c0 c1 c2 c3
          refine (unhide HW2 _ (unhide HM6)).mono ?_
          rintro e w7 ⟨⟨v, rfl, ho⟩, hb⟩
          have HB7 := hide (below_then (unhide HB6) hb)
          have HA7 := hide ((unhide HA6).below hb)
          have HM7 := hide ((unhide HM6).below hb)
          have HV7 := hide ((unhide HV6).below hb)
          obtain ⟨a7, c7, rfl⟩ := ho.form
          have HU7 := hide (OwnP.ps ho)
          clear ho HV6
          clear hb HA6 HM6 HB6 HK6 KS
          go_wp2_with fail
          refine (unhide HSS _ _ _ _ _ (unhide HA7) (unhide HM7)).mono ?_
          rintro e w8 ⟨rfl, hb⟩
          have HB8 := hide (below_then (unhide HB7) hb)
          have HA8 := hide ((unhide HA7).below hb)
          have HM8 := hide ((unhide HM7).below hb)
          clear hb HB7 HA7 HM7 
          go_wp2_with fail
          refine (unhide HCK _ _ _ (unhide HA8)).mono ?_
          rintro e w9 ⟨rfl, hb⟩
          have HB9 := hide (below_then (unhide HB8) hb)
          have HA9 := hide ((unhide HA8).below hb)
          have HM9 := hide ((unhide HM8).below hb)
          clear hb HB8 HA8 HM8
          go_wp2
          go_roundw
          case rel => exact ⟨k + 1, L, sz, _, _, _, _, by have := unhide HLT; omega, rfl, rfl, rfl, by go_num, unhide HCL, unhide HA9, unhide HM9, unhide HRI, unhide HLN, unhide HB9⟩
          case measure => have := unhide HLT; simp [intOf] <;> omega
        by_cases t2 : 4611686018427387904 < N
        · rw [truncA_far hc t1 t2] at HW1 HW2
          simp only at HW1 HW2
          clear hD hsz hdd hc hcl hL6 hlt
          have HRI : Hid (Right L sz) := unhide HRR
          have HLN : Hid (L.length ≤ 10 * (k + 1)) := by have := unhide HLL; rw [hide_eq]; omega
          have HSS : Hid (∀ W A A' C C', Ps W A L → Ps W A' L → Calls Tryd.prog 16 #[.slice A L.length C, .slice A' L.length C'] W fun e w' => e = .returned (.bool true) ∧ Below W.heap.size W w') := fun W A A' C C' h h' => same_self A A' C C' L W h h' (by have := unhide HLN; omega)
          have HCK : Hid (∀ W A C, Ps W A L → Calls Tryd.prog 17 #[.slice A L.length C, .int .i64 sz] W fun e w' => e = .returned (.int .i64 0) ∧ Below W.heap.size W w') := fun W A C h => by
            have := chk_any A C L sz W h (by have := unhide HLN; omega) (fun p hp => by have := ((unhide HRI).ok p hp).2.2.1; omega)
            rw [chk_right (unhide HRI)] at this
            exact this
          clear HRR
          go_wp2_with fail
          rw [← hq] at d0 d1 d2 d3 ⊢
          clear hW hq d0 d1 d2 d3
          refine (unhide HW1 _ (unhide HA5)).mono ?_
          rintro e w6 ⟨⟨v, rfl, ho⟩, hb⟩
          have HB6 := hide (below_then (unhide HB5) hb)
          have HK6 := hide (show Below w5.heap.size w5 w6 from hb)
          have HA6 := hide ((unhide HA5).below hb)
          have HM6 := hide ((unhide HM5).below hb)
          obtain ⟨c0, c1, c2, c3⟩ := unhide KS _ hb
          obtain ⟨a6, c6, rfl⟩ := ho.form
          have HV6 := hide (OwnP.ps ho)
          have HC6 := hide (OwnP.cap ho)
          clear ho
          clear hb HA5 HM5 HB5
          go_wp2_with fail
          clear c0 c1 c2 c3
          refine (unhide HW2 _ (unhide HM6)).mono ?_
          rintro e w7 ⟨⟨v, rfl, ho⟩, hb⟩
          have HB7 := hide (below_then (unhide HB6) hb)
          have HA7 := hide ((unhide HA6).below hb)
          have HM7 := hide ((unhide HM6).below hb)
          have HV7 := hide ((unhide HV6).below hb)
          obtain ⟨a7, c7, rfl⟩ := ho.form
          have HU7 := hide (OwnP.ps ho)
          clear ho HV6
          clear hb HA6 HM6 HB6 HK6 KS
          go_wp2_with fail
          refine (unhide HSS _ _ _ _ _ (unhide HA7) (unhide HM7)).mono ?_
          rintro e w8 ⟨rfl, hb⟩
          have HB8 := hide (below_then (unhide HB7) hb)
          have HA8 := hide ((unhide HA7).below hb)
          have HM8 := hide ((unhide HM7).below hb)
          clear hb HB7 HA7 HM7 
          go_wp2_with fail
          refine (unhide HCK _ _ _ (unhide HA8)).mono ?_
          rintro e w9 ⟨rfl, hb⟩
          have HB9 := hide (below_then (unhide HB8) hb)
          have HA9 := hide ((unhide HA8).below hb)
          have HM9 := hide ((unhide HM8).below hb)
          clear hb HB8 HA8 HM8
          go_wp2
          go_roundw
          case rel => exact ⟨k + 1, L, sz, _, _, _, _, by have := unhide HLT; omega, rfl, rfl, rfl, by go_num, unhide HCL, unhide HA9, unhide HM9, unhide HRI, unhide HLN, unhide HB9⟩
          case measure => have := unhide HLT; simp [intOf] <;> omega
        rw [truncA_ok hc t1 t2] at HW1 HW2
        simp only at HW1 HW2
        have HRI0 := hide (right_trunc (unhide HRR) (n := N) (by omega) (by omega))
        have HFW := hide (truncR_len L N)
        generalize truncR L N = L' at *
        clear hD hsz hdd hc hcl hL6 hlt
        have HRI : Hid (Right L' N) := unhide HRI0
        have HLN : Hid (L'.length ≤ 10 * (k + 1)) := by have := unhide HFW; have := unhide HLL; rw [hide_eq]; omega
        have HSS : Hid (∀ W A A' C C', Ps W A L' → Ps W A' L' → Calls Tryd.prog 16 #[.slice A L'.length C, .slice A' L'.length C'] W fun e w' => e = .returned (.bool true) ∧ Below W.heap.size W w') := fun W A A' C C' h h' => same_self A A' C C' L' W h h' (by have := unhide HLN; omega)
        have HCK : Hid (∀ W A C, Ps W A L' → Calls Tryd.prog 17 #[.slice A L'.length C, .int .i64 N] W fun e w' => e = .returned (.int .i64 0) ∧ Below W.heap.size W w') := fun W A C h => by
          have := chk_any A C L' N W h (by have := unhide HLN; omega) (fun p hp => by have := ((unhide HRI).ok p hp).2.2.1; omega)
          rw [chk_right (unhide HRI)] at this
          exact this
        clear HRR
        go_wp2_with fail
        rw [← hq] at d0 d1 d2 d3 ⊢
        clear hW hq d0 d1 d2 d3
        refine (unhide HW1 _ (unhide HA5)).mono ?_
        rintro e w6 ⟨⟨v, rfl, ho⟩, hb⟩
        have HB6 := hide (below_then (unhide HB5) hb)
        have HK6 := hide (show Below w5.heap.size w5 w6 from hb)
        have HA6 := hide ((unhide HA5).below hb)
        have HM6 := hide ((unhide HM5).below hb)
        obtain ⟨c0, c1, c2, c3⟩ := unhide KS _ hb
        obtain ⟨a6, c6, rfl⟩ := ho.form
        have HV6 := hide (OwnP.ps ho)
        have HC6 := hide (OwnP.cap ho)
        clear ho
        clear hb HA5 HM5 HB5
        go_wp2_with fail
        clear c0 c1 c2 c3
        refine (unhide HW2 _ (unhide HM6)).mono ?_
        rintro e w7 ⟨⟨v, rfl, ho⟩, hb⟩
        have HB7 := hide (below_then (unhide HB6) hb)
        have HA7 := hide ((unhide HA6).below hb)
        have HM7 := hide ((unhide HM6).below hb)
        have HV7 := hide ((unhide HV6).below hb)
        obtain ⟨a7, c7, rfl⟩ := ho.form
        have HU7 := hide (OwnP.ps ho)
        clear ho HV6
        clear hb HA6 HM6 HB6 HK6 KS
        go_wp2_with fail
        refine (unhide HSS _ _ _ _ _ (unhide HV7) (unhide HU7)).mono ?_
        rintro e w8 ⟨rfl, hb⟩
        have HB8 := hide (below_then (unhide HB7) hb)
        have HA8 := hide ((unhide HV7).below hb)
        have HM8 := hide ((unhide HU7).below hb)
        clear hb HB7 HA7 HM7 HV7 HU7
        go_wp2_with fail
        refine (unhide HCK _ _ _ (unhide HA8)).mono ?_
        rintro e w9 ⟨rfl, hb⟩
        have HB9 := hide (below_then (unhide HB8) hb)
        have HA9 := hide ((unhide HA8).below hb)
        have HM9 := hide ((unhide HM8).below hb)
        clear hb HB8 HA8 HM8
        go_wp2
        go_roundw
        case rel => exact ⟨k + 1, L', N, _, _, _, _, by have := unhide HLT; omega, rfl, rfl, rfl, by go_num, unhide HC6, unhide HA9, unhide HM9, unhide HRI, unhide HLN, unhide HB9⟩
        case measure => have := unhide HLT; simp [intOf] <;> omega
      have k1' : (K == 1) = false := beq_eq_false_iff_ne.2 k1
      by_cases k2 : K = 2
      · subst k2
        have HW1 := hide (fun W (hW : Ps W al L) => punch_any al cl L sz O N W hW hcl (by omega) hdd ho2 hn2)
        have HW2 := hide (fun W (hW : Ps W am L) => punchD_any am cm L sz O N W hW (by omega) hdd ho2 hn2)
        unfold Ans2 at HW1 HW2
        by_cases t1 : O < 0 ∨ N < 0
        · rw [punchA_arg hc t1] at HW1 HW2
          simp only at HW1 HW2
          clear hD hsz hdd hc hcl hL6 hlt t1
          have HRI : Hid (Right L sz) := unhide HRR
          have HLN : Hid (L.length ≤ 10 * (k + 1)) := by have := unhide HLL; rw [hide_eq]; omega
          have HSS : Hid (∀ W A A' C C', Ps W A L → Ps W A' L → Calls Tryd.prog 16 #[.slice A L.length C, .slice A' L.length C'] W fun e w' => e = .returned (.bool true) ∧ Below W.heap.size W w') := fun W A A' C C' h h' => same_self A A' C C' L W h h' (by have := unhide HLN; omega)
          have HCK : Hid (∀ W A C, Ps W A L → Calls Tryd.prog 17 #[.slice A L.length C, .int .i64 sz] W fun e w' => e = .returned (.int .i64 0) ∧ Below W.heap.size W w') := fun W A C h => by
            have := chk_any A C L sz W h (by have := unhide HLN; omega) (fun p hp => by have := ((unhide HRI).ok p hp).2.2.1; omega)
            rw [chk_right (unhide HRI)] at this
            exact this
          clear HRR
          go_wp2_with fail
          rw [← hq] at d0 d1 d2 d3 ⊢
          clear hW hq d0 d1 d2 d3
          refine (unhide HW1 _ (unhide HA5)).mono ?_
          rintro e w6 ⟨⟨v, rfl, ho⟩, hb⟩
          have HB6 := hide (below_then (unhide HB5) hb)
          have HK6 := hide (show Below w5.heap.size w5 w6 from hb)
          have HA6 := hide ((unhide HA5).below hb)
          have HM6 := hide ((unhide HM5).below hb)
          obtain ⟨c0, c1, c2, c3⟩ := unhide KS _ hb
          obtain ⟨a6, c6, rfl⟩ := ho.form
          have HV6 := hide (OwnP.ps ho)
          have HC6 := hide (OwnP.cap ho)
          clear ho
          clear hb HA5 HM5 HB5
          go_wp2_with fail
          clear c0 c1 c2 c3
          refine (unhide HW2 _ (unhide HM6)).mono ?_
          rintro e w7 ⟨⟨v, rfl, ho⟩, hb⟩
          have HB7 := hide (below_then (unhide HB6) hb)
          have HA7 := hide ((unhide HA6).below hb)
          have HM7 := hide ((unhide HM6).below hb)
          have HV7 := hide ((unhide HV6).below hb)
          obtain ⟨a7, c7, rfl⟩ := ho.form
          have HU7 := hide (OwnP.ps ho)
          clear ho HV6
          clear hb HA6 HM6 HB6 HK6 KS
          go_wp2_with fail
          refine (unhide HSS _ _ _ _ _ (unhide HA7) (unhide HM7)).mono ?_
          rintro e w8 ⟨rfl, hb⟩
          have HB8 := hide (below_then (unhide HB7) hb)
          have HA8 := hide ((unhide HA7).below hb)
          have HM8 := hide ((unhide HM7).below hb)
          clear hb HB7 HA7 HM7 
          go_wp2_with fail
          refine (unhide HCK _ _ _ (unhide HA8)).mono ?_
          rintro e w9 ⟨rfl, hb⟩
          have HB9 := hide (below_then (unhide HB8) hb)
          have HA9 := hide ((unhide HA8).below hb)
          have HM9 := hide ((unhide HM8).below hb)
          clear hb HB8 HA8 HM8
          go_wp2
          go_roundw
          case rel => exact ⟨k + 1, L, sz, _, _, _, _, by have := unhide HLT; omega, rfl, rfl, rfl, by go_num, unhide HCL, unhide HA9, unhide HM9, unhide HRI, unhide HLN, unhide HB9⟩
          case measure => have := unhide HLT; simp [intOf] <;> omega
        rw [punchA_ok hc t1] at HW1 HW2
        simp only at HW1 HW2
        have HRI0 := hide (right_pun (unhide HRR) O N)
        have HFW := hide (punR_len L sz O N)
        generalize punR L sz O N = L' at *
        clear hD hsz hdd hc hcl hL6 hlt t1
        have HRI : Hid (Right L' sz) := unhide HRI0
        have HLN : Hid (L'.length ≤ 10 * (k + 1)) := by have := unhide HFW; have := unhide HLL; rw [hide_eq]; omega
        have HSS : Hid (∀ W A A' C C', Ps W A L' → Ps W A' L' → Calls Tryd.prog 16 #[.slice A L'.length C, .slice A' L'.length C'] W fun e w' => e = .returned (.bool true) ∧ Below W.heap.size W w') := fun W A A' C C' h h' => same_self A A' C C' L' W h h' (by have := unhide HLN; omega)
        have HCK : Hid (∀ W A C, Ps W A L' → Calls Tryd.prog 17 #[.slice A L'.length C, .int .i64 sz] W fun e w' => e = .returned (.int .i64 0) ∧ Below W.heap.size W w') := fun W A C h => by
          have := chk_any A C L' sz W h (by have := unhide HLN; omega) (fun p hp => by have := ((unhide HRI).ok p hp).2.2.1; omega)
          rw [chk_right (unhide HRI)] at this
          exact this
        clear HRR
        go_wp2_with fail
        rw [← hq] at d0 d1 d2 d3 ⊢
        clear hW hq d0 d1 d2 d3
        refine (unhide HW1 _ (unhide HA5)).mono ?_
        rintro e w6 ⟨⟨v, rfl, ho⟩, hb⟩
        have HB6 := hide (below_then (unhide HB5) hb)
        have HK6 := hide (show Below w5.heap.size w5 w6 from hb)
        have HA6 := hide ((unhide HA5).below hb)
        have HM6 := hide ((unhide HM5).below hb)
        obtain ⟨c0, c1, c2, c3⟩ := unhide KS _ hb
        obtain ⟨a6, c6, rfl⟩ := ho.form
        have HV6 := hide (OwnP.ps ho)
        have HC6 := hide (OwnP.cap ho)
        clear ho
        clear hb HA5 HM5 HB5
        go_wp2_with fail
        clear c0 c1 c2 c3
        refine (unhide HW2 _ (unhide HM6)).mono ?_
        rintro e w7 ⟨⟨v, rfl, ho⟩, hb⟩
        have HB7 := hide (below_then (unhide HB6) hb)
        have HA7 := hide ((unhide HA6).below hb)
        have HM7 := hide ((unhide HM6).below hb)
        have HV7 := hide ((unhide HV6).below hb)
        obtain ⟨a7, c7, rfl⟩ := ho.form
        have HU7 := hide (OwnP.ps ho)
        clear ho HV6
        clear hb HA6 HM6 HB6 HK6 KS
        go_wp2_with fail
        refine (unhide HSS _ _ _ _ _ (unhide HV7) (unhide HU7)).mono ?_
        rintro e w8 ⟨rfl, hb⟩
        have HB8 := hide (below_then (unhide HB7) hb)
        have HA8 := hide ((unhide HV7).below hb)
        have HM8 := hide ((unhide HU7).below hb)
        clear hb HB7 HA7 HM7 HV7 HU7
        go_wp2_with fail
        refine (unhide HCK _ _ _ (unhide HA8)).mono ?_
        rintro e w9 ⟨rfl, hb⟩
        have HB9 := hide (below_then (unhide HB8) hb)
        have HA9 := hide ((unhide HA8).below hb)
        have HM9 := hide ((unhide HM8).below hb)
        clear hb HB8 HA8 HM8
        go_wp2
        go_roundw
        case rel => exact ⟨k + 1, L', sz, _, _, _, _, by have := unhide HLT; omega, rfl, rfl, rfl, by go_num, unhide HC6, unhide HA9, unhide HM9, unhide HRI, unhide HLN, unhide HB9⟩
        case measure => have := unhide HLT; simp [intOf] <;> omega
      have k2' : (K == 2) = false := beq_eq_false_iff_ne.2 k2
      have HW1 := hide (fun W (hW : Ps W al L) => read_any al cl L sz O N W hW hcl (by omega) (fun p hp => by have := hdd p hp; omega) ho2)
      have HW2 := hide (fun W (hW : Ps W am L) => readD_any am cm L sz O N W hW (by omega) (fun p hp => by have := hdd p hp; omega) ho2)
      unfold textA at HW1 HW2
      generalize readA L sz O N = XR at *
      obtain ⟨xt, xe⟩ := XR
      simp only at HW1 HW2
      have htx := str_eq (tx xt)
      clear hD hsz hdd hc hcl hL6 hlt
      have HRI : Hid (Right L sz) := unhide HRR
      have HLN : Hid (L.length ≤ 10 * (k + 1)) := by have := unhide HLL; rw [hide_eq]; omega
      have HSS : Hid (∀ W A A' C C', Ps W A L → Ps W A' L → Calls Tryd.prog 16 #[.slice A L.length C, .slice A' L.length C'] W fun e w' => e = .returned (.bool true) ∧ Below W.heap.size W w') := fun W A A' C C' h h' => same_self A A' C C' L W h h' (by have := unhide HLN; omega)
      have HCK : Hid (∀ W A C, Ps W A L → Calls Tryd.prog 17 #[.slice A L.length C, .int .i64 sz] W fun e w' => e = .returned (.int .i64 0) ∧ Below W.heap.size W w') := fun W A C h => by
        have := chk_any A C L sz W h (by have := unhide HLN; omega) (fun p hp => by have := ((unhide HRI).ok p hp).2.2.1; omega)
        rw [chk_right (unhide HRI)] at this
        exact this
      clear HRR
      go_wp2_with fail
      rw [← hq] at d0 d1 d2 d3 ⊢
      clear hW hq d0 d1 d2 d3
      refine (unhide HW1 _ (unhide HA5)).mono ?_
      rintro e w6 ⟨rfl, hb⟩
      have HB6 := hide (below_then (unhide HB5) hb)
      have HK6 := hide (show Below w5.heap.size w5 w6 from hb)
      have HA6 := hide ((unhide HA5).below hb)
      have HM6 := hide ((unhide HM5).below hb)
      obtain ⟨c0, c1, c2, c3⟩ := unhide KS _ hb
      clear hb HA5 HM5 HB5
      go_wp2_with fail
      clear c0 c1 c2 c3
      refine (unhide HW2 _ (unhide HM6)).mono ?_
      rintro e w7 ⟨rfl, hb⟩
      have HB7 := hide (below_then (unhide HB6) hb)
      have HA7 := hide ((unhide HA6).below hb)
      have HM7 := hide ((unhide HM6).below hb)
      clear hb HA6 HM6 HB6 HK6 KS
      go_wp2_with fail
      refine (unhide HSS _ _ _ _ _ (unhide HA7) (unhide HM7)).mono ?_
      rintro e w8 ⟨rfl, hb⟩
      have HB8 := hide (below_then (unhide HB7) hb)
      have HA8 := hide ((unhide HA7).below hb)
      have HM8 := hide ((unhide HM7).below hb)
      clear hb HB7 HA7 HM7 
      go_wp2_with fail
      refine (unhide HCK _ _ _ (unhide HA8)).mono ?_
      rintro e w9 ⟨rfl, hb⟩
      have HB9 := hide (below_then (unhide HB8) hb)
      have HA9 := hide ((unhide HA8).below hb)
      have HM9 := hide ((unhide HM8).below hb)
      clear hb HB8 HA8 HM8
      go_wp2
      go_roundw
      case rel => exact ⟨k + 1, L, sz, _, _, _, _, by have := unhide HLT; omega, rfl, rfl, rfl, by go_num, unhide HCL, unhide HA9, unhide HM9, unhide HRI, unhide HLN, unhide HB9⟩
      case measure => have := unhide HLT; simp [intOf] <;> omega
    · obtain rfl : k = l.length := by omega
      have hlt' : ¬ (l.length : Int) < (l.length : Int) := by omega
      clear hlt hb hps1 hps2 HB1
      go_wp2
      go_ret
      exact ⟨rfl, unhide HB⟩
end Go.Proofs.YtmpgaecnibakdaaDoor
