/- What the program's parts does: what stands between slashes, rune by rune. -/
import Derived.Test.YtoogcejbhehoaaaDoorLd
namespace Go.Proofs.YtoogcejbhehoaaaDoor
open Go.ChangeShapes Go.WideShapes Go.ChangeAt Go.RowKit

theorem cutW_end : ∀ (l one : List UInt8), cutW one (l ++ [47]) = cutW one l ++ [[]]
  | [], one => by simp [cutW]
  | c :: r, one => by
    rw [List.cons_append]
    unfold cutW
    by_cases h : c = 47
    · rw [if_pos h, if_pos h, cutW_end r []]
      rfl
    · rw [if_neg h, if_neg h, cutW_end r _]

/-- what is under way -/
def way (T : ByteArray) (fr pos : Nat) : List UInt8 := ((bs T).take pos).drop fr
theorem way_more (T : ByteArray) (fr pos n : Nat) (h : fr ≤ pos) (hp : pos ≤ (bs T).length) : way T fr (pos + n) = way T fr pos ++ ((bs T).drop pos).take n := by
  unfold way
  rw [List.take_add, List.drop_append_of_le_length (by rw [List.length_take]; omega)]
theorem drop_more (T : ByteArray) (pos n : Nat) : (bs T).drop pos = ((bs T).drop pos).take n ++ (bs T).drop (pos + n) := by
  rw [← List.drop_drop, List.take_append_drop]

theorem part_round (T : ByteArray) (pos fr : Nat) (h : pos < T.size) (hf : fr ≤ pos) :
    ((Utf8.decode T pos).1 = 47 → (Utf8.decode T pos).2 = 1 ∧ cutW (way T fr pos) ((bs T).drop pos) = way T fr pos :: cutW [] ((bs T).drop (pos + 1))) ∧
    ((Utf8.decode T pos).1 ≠ 47 → pos + (Utf8.decode T pos).2 ≤ T.size ∧ 1 ≤ (Utf8.decode T pos).2 ∧ cutW (way T fr pos) ((bs T).drop pos) = cutW (way T fr (pos + (Utf8.decode T pos).2)) ((bs T).drop (pos + (Utf8.decode T pos).2))) := by
  have hl : pos < (bs T).length := by rw [bs_len]; exact h
  have h1 : ((bs T).getD pos 0).toNat < 128 → Utf8.decode T pos = (((bs T).getD pos 0).toNat, 1) := (rune_at T pos hl).1
  have h2 : 128 ≤ ((bs T).getD pos 0).toNat → 128 ≤ (Utf8.decode T pos).1 ∧ 1 ≤ (Utf8.decode T pos).2 ∧ pos + (Utf8.decode T pos).2 ≤ (bs T).length ∧ ∀ j, pos ≤ j → j < pos + (Utf8.decode T pos).2 → 128 ≤ ((bs T).getD j 0).toNat := (rune_at T pos hl).2
  have hd := drop_at T pos h
  have hx := bs_at T pos h
  have clean : ∀ n, (∀ c ∈ ((bs T).drop pos).take n, c ≠ 47) → cutW (way T fr pos) ((bs T).drop pos) = cutW (way T fr (pos + n)) ((bs T).drop (pos + n)) := by
    intro n hn
    rw [way_more T fr pos n hf (by omega), ← cutW_clean _ _ _ hn, ← drop_more]
  by_cases h0 : ((bs T).getD pos 0).toNat < 128
  · rw [h1 h0]
    dsimp only
    refine ⟨fun hh => ⟨rfl, ?_⟩, fun hh => ⟨by omega, by omega, clean 1 ?_⟩⟩
    · have : T[pos]'h = 47 := UInt8.toNat_inj.1 (by rw [← hx]; exact hh)
      rw [hd, this, cutW_slash]
    · intro c hc
      rw [hd] at hc
      simp at hc
      subst hc
      intro h47
      rw [hx, h47] at hh
      exact hh rfl
  · obtain ⟨a, b, c, d⟩ := h2 (by omega)
    refine ⟨fun hh => by omega, fun _ => ⟨by have := bs_len T; omega, b, clean _ ?_⟩⟩
    intro x hx
    obtain ⟨i, hi, rfl⟩ := List.mem_iff_getElem.1 hx
    rw [List.length_take, List.length_drop] at hi
    have := d (pos + i) (by omega) (by omega)
    rw [List.getD_eq_getElem?_getD, List.getElem?_eq_getElem (by omega)] at this
    rw [List.getElem_take, List.getElem_drop]
    intro h47
    rw [show (some ((bs T)[pos + i])).getD 0 = (bs T)[pos + i] from rfl, h47] at this
    exact absurd this (by decide)

theorem way_cut (s : ByteArray) (fr pos : Nat) (hp : pos ≤ s.size) : s.extract fr pos = tx (way (s ++ ⟨#[47]⟩) fr pos) := by
  apply bs_inj
  rw [bs_tx]
  unfold way
  rw [bs_append, List.take_append_of_le_length (by rw [bs_len]; exact hp)]
  unfold bs
  rw [ByteArray.data_extract, Array.toList_extract, List.extract_eq_take_drop, List.drop_take]

set_option maxHeartbeats 1000000 in
theorem clone_any (s : ByteArray) (w : World) (hlim : s.size ≤ 1000000) :
    Calls Tryd.prog 41 #[.string s] w fun e w' => e = .returned (.string s) ∧ Below w.heap.size w w' := by
  have H := hide (sclone_any s w hlim)
  go_enter Tryd.func41, Tryd.ntmps41
  go_wp2_with (go_at_call 48; refine (unhide H).mono ?_; rintro e w' ⟨rfl, hb⟩)
  go_ret
  exact ⟨rfl, hb⟩

/-- the parts so far: none of the others fits, or too many -/
theorem so_far {fits : Nat → List UInt8 → Bool} {l : List UInt8} {D rest : List (List UInt8)} {o : List UInt8} (he : D ++ (o :: rest) = cutW [] l ++ [[]]) (hr : rest ≠ []) (hok : okP fits 0 D = true) :
    (D.length = 32 → partsR fits l = none) ∧ (fits D.length o = false → partsR fits l = none) ∧ (¬ D.length = 32 → fits D.length o = true → okP fits 0 (D ++ [o]) = true) := by
  obtain ⟨r1, x, rfl⟩ := snoc_cases rest hr
  have he2 : D ++ (o :: r1) = cutW [] l := (List.append_inj' (show (D ++ (o :: r1)) ++ [x] = cutW [] l ++ [[]] by rw [← he, List.append_assoc]; rfl) rfl).1
  have hlen := congrArg List.length he2
  rw [List.length_append, List.length_cons] at hlen
  refine ⟨fun h => parts_long (by omega), fun h => parts_no (i := D.length) (by omega) ?_, fun h1 h2 => ?_⟩
  · rw [← he2, List.getD_eq_getElem?_getD, List.getElem?_append_right (Nat.le_refl _), Nat.sub_self]
    exact h
  · rw [okP_append, hok, okP_cons, Nat.zero_add, h2]
    have h3 : D.length ≤ 32 := by
      rcases ((okP_iff fits D 0).1 hok).1 with h | h
      · rw [h]; simp
      · omega
    have h4 : D.length < 32 := by omega
    simp [h4, okP]

set_option maxHeartbeats 8000000 in
set_option maxRecDepth 10000 in
theorem parts_any (K : Nat) (fits : Nat → List UInt8 → Bool) (s : ByteArray) (w : World) (hs : s.size ≤ 900000)
    (he : ∀ args w, (callFunc K args).run Tryd.prog w = .ok (.enter K args) w)
    (hf : ∀ (n : Nat) (X : ByteArray) (W : World), X.size ≤ 1000000 → Below w.heap.size w W → Calls Tryd.prog K #[.int .i64 (n : Int), .string X] W fun e W' => e = .returned (.bool (fits n (bs X))) ∧ Below W.heap.size W W') :
    Calls Tryd.prog 31 #[.string s, .func (.func K) #[] #[]] w fun e w' => Names w w' e (partsR fits (bs s)) := by
  have HF := hide hf
  clear hf
  have hcat : ¬ 9223372036854775807 < s.size + 1 := by omega
  have hk0 : (w.iter (s ++ ⟨#[47]⟩) 0).heap[w.heap.size]? = some (.stringIter (s ++ ⟨#[47]⟩) 0) := World.iter_heap w _ 0
  have hb0 : Below w.heap.size w (w.iter (s ++ ⟨#[47]⟩) 0) := b_alloc w _
  have hT : (s ++ ⟨#[47]⟩ : ByteArray).size = s.size + 1 := by rw [ByteArray.size_append]; rfl
  have HT := hide hT
  clear hT
  go_enter Tryd.func31, Tryd.ntmps31
  go_wp2
  go_loopw [6, 7, 8, 9, 10] (fun v f _ _ _ wr => ∃ (pos fr : Nat) (D : List (List UInt8)), pos ≤ s.size + 1 ∧ fr ≤ pos ∧ f = .int .i64 fr ∧ wr.heap[w.heap.size]? = some (.stringIter (s ++ ⟨#[47]⟩) pos) ∧ Own (w.heap.size + 1) wr v D ∧
      D ++ cutW (way (s ++ ⟨#[47]⟩) fr pos) ((bs (s ++ ⟨#[47]⟩)).drop pos) = cutW [] (bs s) ++ [[]] ∧ okP fits 0 D = true ∧ Below w.heap.size w wr)
    (fun _ _ _ _ _ wr => s.size + 1 - wr.iterPos w.heap.size)
  case atStart => exact ⟨0, 0, [], Nat.zero_le _, Nat.le_refl _, rfl, hk0, Own.nil _ _, by rw [bs_append, show bs ⟨#[47]⟩ = [47] from rfl]; simp [way, cutW_end], rfl, hb0⟩
  case round =>
    obtain ⟨pos, fr, D, hps, hfr, rfl, hk, hown, hE, hok, hb⟩ := hrel
    clear hk0 hb0
    have HB := hide hb
    have HO := hide hown
    have HE := hide hE
    have HK := hide hok
    have hD32 : D.length ≤ 32 := by
      rcases ((okP_iff fits D 0).1 hok).1 with h | h
      · rw [h]; simp
      · omega
    clear hb hown hE hok
    by_cases hp : pos < s.size + 1
    · have hp' : pos < (s ++ ⟨#[47]⟩ : ByteArray).size := by rw [unhide HT]; exact hp
      have hnext : ∀ ty, (Instr.next (.pointer (some ⟨w.heap.size, 0, none⟩)) true ty).run Tryd.prog wr = _ := fun ty => Lib.run_next_any_at wr w.heap.size (s ++ ⟨#[47]⟩) pos ty hk hp'
      have hk1 := hide (Lib.iterAt_heap wr w.heap.size (s ++ ⟨#[47]⟩) pos (pos + (Utf8.decode (s ++ ⟨#[47]⟩) pos).2) hk)
      have hb1 := hide (Lib.below_iterAt (unhide HB) (Nat.le_refl _) (s ++ ⟨#[47]⟩) (pos + (Utf8.decode (s ++ ⟨#[47]⟩) pos).2))
      have ho1 := hide ((unhide HO).iterAt (Nat.lt_succ_self w.heap.size) (s ++ ⟨#[47]⟩) (pos + (Utf8.decode (s ++ ⟨#[47]⟩) pos).2))
      have hmu : wr.iterPos w.heap.size = pos := by simp [World.iterPos, hk]
      have HM := hide hmu
      have hlt1 : w.heap.size < (wr.iterAt w.heap.size (s ++ ⟨#[47]⟩) (pos + (Utf8.decode (s ++ ⟨#[47]⟩) pos).2)).heap.size := (Array.getElem?_eq_some_iff.1 (unhide hk1)).1
      obtain ⟨n1, n2⟩ := part_round (s ++ ⟨#[47]⟩) pos fr hp' hfr
      rw [unhide HT] at n2
      generalize wr.iterAt w.heap.size (s ++ ⟨#[47]⟩) (pos + (Utf8.decode (s ++ ⟨#[47]⟩) pos).2) = W1 at hnext hk1 hb1 ho1 hlt1
      generalize Utf8.decode (s ++ ⟨#[47]⟩) pos = d at hnext hk1 n1 n2
      obtain ⟨r, wd⟩ := d
      dsimp only at hnext hk1 n1 n2
      have N1 := hide n1
      have N2 := hide n2
      clear n1 n2 hk hmu hp' HO
      by_cases h47 : r = 47
      · obtain ⟨m1, m2⟩ := unhide N1 h47
        clear N1 N2
        subst h47 m1
        have hcut := way_cut s fr pos (by omega)
        have hE2 := unhide HE
        rw [m2] at hE2
        have hfar := so_far hE2 (fun h => by have := cutW_pos ((bs (s ++ ⟨#[47]⟩)).drop (pos + 1)) []; rw [h] at this; simp at this) (unhide HK)
        have hwl : (way (s ++ ⟨#[47]⟩) fr pos).length ≤ 900001 := by
          unfold way
          rw [List.length_drop, List.length_take]
          omega
        have hxs : (tx (way (s ++ ⟨#[47]⟩) fr pos)).size ≤ 1000000 := by rw [tx_size]; omega
        have HC := hide (unhide HF D.length (tx (way (s ++ ⟨#[47]⟩) fr pos)) W1 hxs (unhide hb1))
        rw [bs_tx] at HC
        have HCl := hide (fun W => clone_any (tx (way (s ++ ⟨#[47]⟩) fr pos)) W hxs)
        have HWB := hide (bs_tx (way (s ++ ⟨#[47]⟩) fr pos))
        have hfr' : (fr : Int) ≤ (pos : Int) := by omega
        have hps' : (pos : Int) ≤ (s.size : Int) := by omega
        have hpb : (pos : Int) ≤ 900001 := by omega
        obtain ⟨a, cap, rfl⟩ := (unhide ho1).form
        have HF1 := hide hfar.1
        have HF2 := hide hfar.2.1
        have HF3 := hide hfar.2.2
        have HE2 := hide hE2
        have HWS : Hid (way (s ++ ⟨#[47]⟩) (pos + 1) (pos + 1) = []) := by
          have : way (s ++ ⟨#[47]⟩) (pos + 1) (pos + 1) = [] := List.drop_eq_nil_of_le (by rw [List.length_take]; omega)
          exact this
        clear hfar hE2 m2 hwl hxs HE
        generalize tx (way (s ++ ⟨#[47]⟩) fr pos) = X at *
        generalize way (s ++ ⟨#[47]⟩) fr pos = o at *
        by_cases h32 : D.length = 32
        · have hl32 : ((D.length : Int) == 32) = true := by rw [h32]; rfl
          have HX := hide (unhide HF1 h32)
          clear HF1 HF2 HF3 HE2 HC
          rw [h32] at ho1 ⊢
          clear hD32 hl32 h32
          go_wp2
          go_ret2
          rw [unhide HX]
          exact Names.no (unhide hb1)
        · have hl32 : ((D.length : Int) == 32) = false := beq_eq_false_iff_ne.2 (by omega)
          have hl32' : ¬ (D.length : Int) = 32 := by omega
          cases hfo : fits D.length o with
          | false =>
            have HX := hide (unhide HF2 hfo)
            rw [hfo] at HC
            clear HF1 HF2 HF3 HE2 hfo
            go_wp2_with fail
            refine (unhide HC).mono ?_
            rintro e w2 ⟨rfl, hb2⟩
            have hb2 := hide (below_then (unhide hb1) hb2)
            go_wp2
            go_ret2
            rw [unhide HX]
            exact Names.no (unhide hb2)
          | true =>
            have HX := hide (unhide HF3 h32 hfo)
            rw [hfo] at HC
            clear HF1 HF2 HF3 hfo h32
            go_wp2_with fail
            refine (unhide HC).mono ?_
            rintro e w2 ⟨rfl, hb2⟩
            have hlt2 : w.heap.size < w2.heap.size := Nat.lt_of_lt_of_le hlt1 hb2.size
            have hk2 := hide ((hb2.block _ hlt1).trans (unhide hk1))
            have ho2 := hide ((unhide ho1).below hb2)
            have hb2 := hide (below_then (unhide hb1) hb2)
            clear hlt1
            go_wp2_with fail
            refine (unhide HCl w2).mono ?_
            rintro e w3 ⟨rfl, hb3⟩
            have hlt3 : w.heap.size + 1 ≤ w3.heap.size := by have := hb3.size; omega
            have hk3 := hide ((hb3.block _ hlt2).trans (unhide hk2))
            have ho3 := hide ((unhide ho2).below hb3)
            have hb3 := hide (below_then (unhide hb2) hb3)
            have hD1 : D.length ≤ 1000000 := by omega
            clear hlt2
            go_wp2_with (at_builtin; refine app_one (x := X) rfl _ _ rfl rfl rfl hlt3 (unhide ho3) hD1 ?_; intro a' cap' w4 ho4 hb4; have ho4 := hide ho4; have hb4 := hide hb4)
            go_roundw
            case rel =>
              have ho5 := unhide ho4
              rw [unhide HWB] at ho5
              refine ⟨pos + 1, pos + 1, D ++ [o], by omega, by omega, by go_num, ((unhide hb4).block _ (Nat.lt_succ_self _)).trans (unhide hk3), ?_, ?_, unhide HX, (unhide hb3).trans ((unhide hb4).mono (by omega))⟩
              · unfold Own at ho5 ⊢
                rw [List.length_append] at ho5 ⊢
                exact ho5
              · rw [unhide HWS, ← unhide HE2, List.append_assoc]
                rfl
            case measure =>
              have hk4 := ((unhide hb4).block _ (Nat.lt_succ_self _)).trans (unhide hk3)
              have hmu2 : w4.iterPos w.heap.size = pos + 1 := by simp [World.iterPos, hk4]
              rw [unhide HM, hmu2]
              omega
      · obtain ⟨m1, m2, m3⟩ := unhide N2 h47
        have t1 : ((r : Int) == 47) = false := beq_eq_false_iff_ne.2 (by omega)
        have u1 : ¬ (r : Int) = 47 := by omega
        have HE2 := hide (m3 ▸ unhide HE)
        clear m3 N1 N2
        go_wp2
        go_roundw
        case rel => exact ⟨pos + wd, fr, D, m1, by omega, rfl, unhide hk1, unhide ho1, unhide HE2, unhide HK, unhide hb1⟩
        case measure =>
          have hmu2 : W1.iterPos w.heap.size = pos + wd := by have := unhide hk1; simp [World.iterPos, this]
          rw [unhide HM, hmu2]
          omega
    · have hp' : ¬ pos < (s ++ ⟨#[47]⟩ : ByteArray).size := by rw [unhide HT]; exact hp
      have hnext : ∀ ty, (Instr.next (.pointer (some ⟨w.heap.size, 0, none⟩)) true ty).run Tryd.prog wr = _ := fun ty => Lib.run_next_end_at wr w.heap.size (s ++ ⟨#[47]⟩) pos ty hk hp'
      have hE2 := unhide HE
      rw [List.drop_eq_nil_of_le (by rw [bs_len]; omega), cutW_nil] at hE2
      have hDD : D = cutW [] (bs s) := by
        have := congrArg List.dropLast hE2
        simpa [List.dropLast_append_of_ne_nil] using this
      have HX := hide (show partsR fits (bs s) = some D by
        unfold partsR
        rw [← hDD, if_pos (unhide HK)])
      obtain ⟨a, cap, rfl⟩ := (unhide HO).form
      have hls := hide ((unhide HO).ls (by omega))
      clear hk hDD hE2 HE
      go_wp2
      go_ret2
      rw [unhide HX]
      exact Names.yes (unhide HB) (unhide hls)
end Go.Proofs.YtoogcejbhehoaaaDoor
