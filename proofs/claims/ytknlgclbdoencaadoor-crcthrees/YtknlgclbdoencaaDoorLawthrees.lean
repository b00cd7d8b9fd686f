/- The walk of the law CrcThrees. -/
import Derived.Test.YtknlgclbdoencaaDoorStore
import Derived.Deep.RegionWith
namespace Go.Proofs.YtknlgclbdoencaaDoor
open Go.ChangeShapes Go.WideShapes Go.ChangeAt Go.RowKit

set_option maxHeartbeats 400000 in
theorem threes_long (a0 : Option Addr) (n0 c0 : Nat) (x y : Int) (w : World) (hT : Tab w) (h : 8192 < n0) (h0 : n0 ≤ 9223372036854775807) :
    Calls Tryd.prog 6 #[.slice a0 n0 c0, .int .u8 x, .int .u8 y] w fun e w' => e = .returned (.bool true) ∧ Below w.heap.size w w' := by
  have HA := hide (awake_any w hT)
  clear hT
  go_enter Tryd.func6, Tryd.ntmps6
  go_wp2_with (go_at_call 8; refine (unhide HA).mono ?_; rintro e w' ⟨rfl, rfl⟩)
  go_ret
  exact ⟨rfl, Below.refl _ _⟩

/-- the first k are f's, the others as they were -/
def mix (f : Nat → Nat) (l : List Nat) (k : Nat) : List Nat := (List.range l.length).map fun i => if i < k then f i else l.getD i 0
theorem mix_length (f : Nat → Nat) (l : List Nat) (k : Nat) : (mix f l k).length = l.length := by simp [mix]
theorem mix_getD (f : Nat → Nat) (l : List Nat) (k i : Nat) (h : i < l.length) : (mix f l k).getD i 0 = if i < k then f i else l.getD i 0 := by
  simp [mix, h]
theorem mix_zero (f : Nat → Nat) (l : List Nat) : mix f l 0 = l := by
  apply List.ext_getElem (mix_length f l 0)
  intro i h1 h2
  simp [mix, List.getElem?_eq_getElem h2]
theorem mix_succ (f : Nat → Nat) (l : List Nat) (k : Nat) : mix f l (k + 1) = (mix f l k).set k (f k) := by
  apply List.ext_getElem (by simp [mix_length])
  intro i h1 h2
  rw [mix_length] at h1
  by_cases he : k = i
  · subst he
    simp [mix]
  · rw [List.getElem_set_ne he]
    simp only [mix, List.getElem_map, List.getElem_range]
    by_cases hi : i < k
    · rw [if_pos hi, if_pos (by omega)]
    · rw [if_neg hi, if_neg (by omega)]
theorem mix_lt {f : Nat → Nat} {l : List Nat} (k : Nat) (hf : ∀ i, f i < 256) (hl : ∀ b ∈ l, b < 256) : ∀ b ∈ mix f l k, b < 256 := by
  intro b hb
  obtain ⟨i, _, rfl⟩ := List.mem_map.1 hb
  split
  · exact hf i
  · exact getD_lt hl i


/-- what the three lists come to -/
def fb (l : List Nat) (x y i : Nat) : Nat := (l.getD i 0 * x + y) % 256
def fc (l : List Nat) (x y i : Nat) : Nat := fb l x y i ^^^ (i % 256)
def fd (l : List Nat) (x y i : Nat) : Nat := l.getD i 0 ^^^ fb l x y i ^^^ fc l x y i

theorem fb_lt (l : List Nat) (x y i : Nat) : fb l x y i < 256 := Nat.mod_lt _ (by decide)
theorem xor8 {a b : Nat} (ha : a < 256) (hb : b < 256) : a ^^^ b < 256 := by
  have : a ^^^ b < 2 ^ 8 := Nat.xor_lt_two_pow (by omega) (by omega)
  simpa using this
theorem fc_lt (l : List Nat) (x y i : Nat) : fc l x y i < 256 := xor8 (fb_lt l x y i) (Nat.mod_lt _ (by decide))
theorem fd_lt {l : List Nat} (hl : ∀ b ∈ l, b < 256) (x y i : Nat) : fd l x y i < 256 := xor8 (xor8 (getD_lt hl i) (fb_lt l x y i)) (fc_lt l x y i)

/-- what a round's three stores do -/
theorem threes_step {B : Nat} {W wr : World} {g1 g2 g3 c1 c2 c3 n : Nat} {l l1 l2 l3 : List Nat} {k x y v : Nat} (hv : l.getD k 0 = v) (hv' : v < 256) (e1 : n = l1.length) (e2 : n = l2.length) (e3 : n = l3.length)
    (r1 : Own B wr (.slice (some ⟨g1, 0, none⟩) n c1) l1) (r2 : Own B wr (.slice (some ⟨g2, 0, none⟩) n c2) l2) (r3 : Own B wr (.slice (some ⟨g3, 0, none⟩) n c3) l3)
    (rb : Below B W wr) (h12 : g1 < g2) (h23 : g2 < g3) (hB : B ≤ g1) :
    Own B (((wr.setCell ⟨g1, k, none⟩ (.int .u8 (((v : Int) * x + y) % 256))).setCell ⟨g2, k, none⟩ (.int .u8 (bits .xor .u8 (((v : Int) * x + y) % 256) ((k : Int) % 256)))).setCell ⟨g3, k, none⟩
        (.int .u8 (bits .xor .u8 (bits .xor .u8 (v : Int) (((v : Int) * x + y) % 256)) (bits .xor .u8 (((v : Int) * x + y) % 256) ((k : Int) % 256))))).drew (.slice (some ⟨g1, 0, none⟩) n c1) (l1.set k (fb l x y k)) ∧
    Own B (((wr.setCell ⟨g1, k, none⟩ (.int .u8 (((v : Int) * x + y) % 256))).setCell ⟨g2, k, none⟩ (.int .u8 (bits .xor .u8 (((v : Int) * x + y) % 256) ((k : Int) % 256)))).setCell ⟨g3, k, none⟩
        (.int .u8 (bits .xor .u8 (bits .xor .u8 (v : Int) (((v : Int) * x + y) % 256)) (bits .xor .u8 (((v : Int) * x + y) % 256) ((k : Int) % 256))))).drew (.slice (some ⟨g2, 0, none⟩) n c2) (l2.set k (fc l x y k)) ∧
    Own B (((wr.setCell ⟨g1, k, none⟩ (.int .u8 (((v : Int) * x + y) % 256))).setCell ⟨g2, k, none⟩ (.int .u8 (bits .xor .u8 (((v : Int) * x + y) % 256) ((k : Int) % 256)))).setCell ⟨g3, k, none⟩
        (.int .u8 (bits .xor .u8 (bits .xor .u8 (v : Int) (((v : Int) * x + y) % 256)) (bits .xor .u8 (((v : Int) * x + y) % 256) ((k : Int) % 256))))).drew (.slice (some ⟨g3, 0, none⟩) n c3) (l3.set k (fd l x y k)) ∧
    Below B W (((wr.setCell ⟨g1, k, none⟩ (.int .u8 (((v : Int) * x + y) % 256))).setCell ⟨g2, k, none⟩ (.int .u8 (bits .xor .u8 (((v : Int) * x + y) % 256) ((k : Int) % 256)))).setCell ⟨g3, k, none⟩
        (.int .u8 (bits .xor .u8 (bits .xor .u8 (v : Int) (((v : Int) * x + y) % 256)) (bits .xor .u8 (((v : Int) * x + y) % 256) ((k : Int) % 256))))).drew := by
  have i1 : ((v : Int) * x + y) % 256 = ((fb l x y k : Nat) : Int) := by
    unfold fb
    rw [hv]
    omega
  have i2 : bits .xor .u8 ((fb l x y k : Nat) : Int) ((k : Int) % 256) = ((fc l x y k : Nat) : Int) := by
    have := u8_xor_nat (fb l x y k) (k % 256) (fb_lt _ _ _ _) (Nat.mod_lt _ (by decide))
    have e : ((k % 256 : Nat) : Int) = (k : Int) % 256 := by omega
    rw [e] at this
    exact this
  have i3 : bits .xor .u8 (bits .xor .u8 (v : Int) ((fb l x y k : Nat) : Int)) ((fc l x y k : Nat) : Int) = ((fd l x y k : Nat) : Int) := by
    rw [u8_xor_nat v (fb l x y k) hv' (fb_lt _ _ _ _), u8_xor_nat (v ^^^ fb l x y k) (fc l x y k) (xor8 hv' (fb_lt _ _ _ _)) (fc_lt _ _ _ _)]
    unfold fd
    rw [hv]
  rw [i1, i2, i3]
  refine ⟨?_, ?_, ?_, ?_⟩
  · exact (((r1.set e1 k _).other (by omega)).other (by omega)).below (Below.refl _ _).drew
  · exact (((r2.other (by omega)).set e2 k _).other (by omega)).below (Below.refl _ _).drew
  · exact (((r3.other (by omega)).other (by omega)).set e3 k _).below (Below.refl _ _).drew
  · exact (((rb.setCell (p := ⟨g1, k, none⟩) hB _).setCell (p := ⟨g2, k, none⟩) (by show B ≤ g2; omega) _).setCell (p := ⟨g3, k, none⟩) (by show B ≤ g3; omega) _).drew

theorem threes_sums (l : List Nat) (x y : Nat) (hl : ∀ b ∈ l, b < 256) :
    Crc.sum (mix (fd l x y) l l.length) = Crc.sum l ^^^ Crc.sum (mix (fb l x y) l l.length) ^^^ Crc.sum (mix (fc l x y) l l.length) ∧
    Crc.sum l < 4294967296 ∧ Crc.sum (mix (fb l x y) l l.length) < 4294967296 ∧ Crc.sum (mix (fc l x y) l l.length) < 4294967296 := by
  refine ⟨Crc.sum_three _ _ _ _ (mix_length _ _ _) (mix_length _ _ _) (mix_length _ _ _) (fun i hi => ?_), Crc.sum_lt _ hl, Crc.sum_lt _ (mix_lt _ (fb_lt l x y) hl), Crc.sum_lt _ (mix_lt _ (fc_lt l x y) hl)⟩
  rw [mix_getD _ _ _ _ hi, mix_getD _ _ _ _ hi, mix_getD _ _ _ _ hi, if_pos hi, if_pos hi, if_pos hi]
  rfl

set_option maxHeartbeats 1000000 in
theorem threes_short (ga oa : Nat) (c0 : Nat) (l : List Nat) (x y : Nat) (W : World) (hT : Tab W) (h0 : l.length ≤ 8192) (hpos : 0 < l.length)
    (b0 : ∀ b ∈ l, b < 256) (hca : ∀ i, i < l.length → W.cell? ⟨ga, oa + i, none⟩ = some (.int .u8 (l.getD i 0 : Nat))) :
    Calls Tryd.prog 6 #[.slice (some ⟨ga, oa, none⟩) l.length c0, .int .u8 x, .int .u8 y] W fun e w' => e = .returned (.bool true) ∧ Below W.heap.size W w' := by
  have p0 : Byt W (.slice (some ⟨ga, oa, none⟩) l.length c0) l := .inr ⟨ga, oa, c0, rfl, hca⟩
  have hga : ga < W.heap.size := World.block_lt_of_cell? W ⟨ga, oa + 0, none⟩ (hca 0 hpos)
  have HA := hide (awake_any W hT)
  have HT := hide hT
  have HP0 := hide p0
  have HB0 := hide b0
  have HCA := hide hca
  clear hT p0 b0 hca
  go_enter Tryd.func6, Tryd.ntmps6
  go_wp2_with (first
    | (go_at_call 8; refine (unhide HA).mono ?_; rintro e w' ⟨rfl, hw⟩; have hw := hw.symm; subst hw))
  refine (own_new W (Nat.le_refl _) (unhide HP0) h0 hpos).mono ?_
  rintro e w1 ⟨g1, c1, rfl, hl1, hu1, ho1, hb1⟩
  have HO1 := hide ho1
  have HB1 := hide hb1
  clear ho1 hb1
  go_wp2_with fail
  refine (own_new W (unhide HB1).size ((unhide HP0).below (unhide HB1)) h0 hpos).mono ?_
  rintro e w2 ⟨g2, c2, rfl, hl2, hu2, ho2, hb2⟩
  have HO2 := hide ho2
  have HB2 := hide (below_then (unhide HB1) hb2)
  have HO12 := hide ((unhide HO1).below hb2)
  clear ho2 hb2 HO1
  go_wp2_with fail
  refine (own_new W (unhide HB2).size ((unhide HP0).below (unhide HB2)) h0 hpos).mono ?_
  rintro e w3 ⟨g3, c3, rfl, hl3, hu3, ho3, hb3⟩
  have HO3 := hide ho3
  have HB3 := hide (below_then (unhide HB2) hb3)
  have HO13 := hide ((unhide HO12).below hb3)
  have HO23 := hide ((unhide HO2).below hb3)
  have hW1 := (unhide HB1).size
  have h12 : g1 < g2 := by omega
  have h23 : g2 < g3 := by omega
  have h13 : g1 < g3 := by omega
  have ha1 : ga < g1 := by omega
  have ha2 : ga < g2 := by omega
  have ha3 : ga < g3 := by omega
  clear ho3 hb3 HO12 HO2 HB1 HB2 hu3
  go_wp2_with fail
  go_loopw [10] (fun i wr => ∃ k : Nat, k ≤ l.length ∧ i = .int .i64 k ∧ Own W.heap.size wr (.slice (some ⟨g1, 0, none⟩) l.length c1) (mix (fb l x y) l k) ∧ Own W.heap.size wr (.slice (some ⟨g2, 0, none⟩) l.length c2) (mix (fc l x y) l k) ∧
      Own W.heap.size wr (.slice (some ⟨g3, 0, none⟩) l.length c3) (mix (fd l x y) l k) ∧ Below W.heap.size W wr) (fun i _ => l.length - (intOf i).toNat)
  case atStart => exact ⟨0, Nat.zero_le _, rfl, by rw [mix_zero]; exact unhide HO13, by rw [mix_zero]; exact unhide HO23, by rw [mix_zero]; exact unhide HO3, unhide HB3⟩
  case round =>
    clear HO13 HO23 HO3 HB3
    obtain ⟨k, hk, rfl, r1, r2, r3, rb⟩ := hrel
    by_cases hlt : k < l.length
    · have ca : wr.cell? ⟨ga, oa + k, none⟩ = some (.int .u8 (l.getD k 0 : Nat)) := (rb.cell hga).trans (unhide HCA k hlt)
      obtain ⟨q1, f1⟩ := r1.at (mix_length _ _ _).symm k (by rw [mix_length]; exact hlt)
      obtain ⟨q2, f2⟩ := r2.at (mix_length _ _ _).symm k (by rw [mix_length]; exact hlt)
      obtain ⟨q3, f3⟩ := r3.at (mix_length _ _ _).symm k (by rw [mix_length]; exact hlt)
      have hv := getD_lt (unhide HB0) k
      have R1 := hide r1
      have R2 := hide r2
      have R3 := hide r3
      have RB := hide rb
      clear r1 r2 r3 rb
      generalize (mix (fb l x y) l k).getD k 0 = v1 at *
      generalize (mix (fc l x y) l k).getD k 0 = v2 at *
      generalize (mix (fd l x y) l k).getD k 0 = v3 at *
      generalize hav : l.getD k 0 = v at *
      have HAV := hide hav
      clear hav
      go_wp2
      go_region
      all_goals go_wp2
      go_roundw
      case rel =>
        refine ⟨k + 1, by omega, by go_num, ?_⟩
        rw [mix_succ, mix_succ, mix_succ]
        exact threes_step (unhide HAV) hv (mix_length _ _ _).symm (mix_length _ _ _).symm (mix_length _ _ _).symm (unhide R1) (unhide R2) (unhide R3) (unhide RB) h12 h23 (by omega)
      case measure => simp [intOf]; omega
    · have hkl : k = l.length := by omega
      subst hkl
      have hp1 : Part wr (.slice (some ⟨g1, 0, none⟩) l.length c1, mix (fb l x y) l l.length) := part_of r1.byt (mix_lt _ (fb_lt l x y) (unhide HB0)) (by rw [mix_length]; exact h0)
      have hp2 : Part wr (.slice (some ⟨g2, 0, none⟩) l.length c2, mix (fc l x y) l l.length) := part_of r2.byt (mix_lt _ (fc_lt l x y) (unhide HB0)) (by rw [mix_length]; exact h0)
      have hp3 : Part wr (.slice (some ⟨g3, 0, none⟩) l.length c3, mix (fd l x y) l l.length) := part_of r3.byt (mix_lt _ (fd_lt (unhide HB0) x y) (unhide HB0)) (by rw [mix_length]; exact h0)
      have hp0 : Part wr (.slice (some ⟨ga, oa, none⟩) l.length c0, l) := (part_of (unhide HP0) (unhide HB0) h0).below rb
      have hI : Inv W wr [(.slice (some ⟨g1, 0, none⟩) l.length c1, mix (fb l x y) l l.length), (.slice (some ⟨g2, 0, none⟩) l.length c2, mix (fc l x y) l l.length), (.slice (some ⟨g3, 0, none⟩) l.length c3, mix (fd l x y) l l.length), (.slice (some ⟨ga, oa, none⟩) l.length c0, l)] :=
        ⟨rb, unhide HT, by
          intro p hp
          simp at hp
          rcases hp with rfl | rfl | rfl | rfl
          · exact hp1
          · exact hp2
          · exact hp3
          · exact hp0⟩
      obtain ⟨s4, s1, s2, s3⟩ := threes_sums l x y (unhide HB0)
      clear hp0 hp1 hp2 hp3 r1 r2 r3 rb
      have x1 := xor_u32 _ _ s1 s2
      have x2 := xor_u32 _ _ (show Crc.sum l ^^^ Crc.sum (mix (fb l x y) l l.length) < 4294967296 by have : Crc.sum l ^^^ Crc.sum (mix (fb l x y) l l.length) < 2 ^ 32 := Nat.xor_lt_two_pow (by omega) (by omega); simpa using this) s3
      rw [← s4] at x2
      clear s4 s1 s2 s3
      generalize mix (fb l x y) l l.length = LB at *
      generalize mix (fc l x y) l l.length = LC at *
      generalize mix (fd l x y) l l.length = LD at *
      go_wp2_with fail
      refine (sum_inv1 (l1 := LD) hI (by simp)).mono ?_
      rintro e w4 ⟨rfl, hI4⟩
      clear hI
      go_wp2_with fail
      refine (own_inv (l := l) hI4 (by simp) h0).mono ?_
      rintro e w5 ⟨a5, c5, rfl, hI5, _⟩
      clear hI4
      go_wp2_with fail
      refine (sum_inv1 (l1 := l) hI5 (by simp)).mono ?_
      rintro e w6 ⟨rfl, hI6⟩
      clear hI5
      go_wp2_with fail
      refine (sum_inv1 (l1 := LB) hI6 (by simp)).mono ?_
      rintro e w7 ⟨rfl, hI7⟩
      clear hI6
      go_wp2_with fail
      refine (sum_inv1 (l1 := LC) hI7 (by simp)).mono ?_
      rintro e w8 ⟨rfl, hI8⟩
      clear hI7
      go_wp2
      go_ret
      exact ⟨rfl, hI8.1⟩

set_option maxHeartbeats 1000000 in
theorem threes_empty (a0 : Option Addr) (c0 : Nat) (x y : Int) (W : World) (hT : Tab W) :
    Calls Tryd.prog 6 #[.slice a0 0 c0, .int .u8 x, .int .u8 y] W fun e w' => e = .returned (.bool true) ∧ Below W.heap.size W w' := by
  have HA := hide (awake_any W hT)
  have hI : Inv W W [(.slice a0 0 c0, [])] := Inv.start hT (by
    intro p hp
    simp at hp
    subst hp
    exact part_of (.inl ⟨rfl, a0, c0, rfl⟩) (by simp) (by simp))
  have hs : Crc.sum [] < 4294967296 := by decide
  have x1 := xor_u32 _ _ hs hs
  rw [Nat.xor_self] at x1
  have x2 := xor_u32 _ _ (show 0 < 4294967296 by decide) hs
  rw [Nat.zero_xor] at x2
  have x1' : bits .xor .u32 (Crc.sum [] : Nat) (Crc.sum [] : Nat) = 0 := x1
  have x2' : bits .xor .u32 0 (Crc.sum [] : Nat) = (Crc.sum [] : Nat) := x2
  clear x1 x2
  have X1 := hide x1'
  have X2 := hide x2'
  clear x1' x2'
  have HI := hide hI
  clear hI hT
  go_enter Tryd.func6, Tryd.ntmps6
  go_wp2_with (go_at_call 8; refine (unhide HA).mono ?_; rintro e w' ⟨rfl, hw⟩; have hw := hw.symm; subst hw)
  refine (own_inv (l := []) (unhide HI) (by simp) (by simp)).mono ?_
  rintro e w1 ⟨a1, c1, rfl, hI1, _⟩
  go_wp2_with fail
  refine (own_inv (l := []) hI1 (by simp) (by simp)).mono ?_
  rintro e w2 ⟨a2, c2, rfl, hI2, _⟩
  go_wp2_with fail
  refine (own_inv (l := []) hI2 (by simp) (by simp)).mono ?_
  rintro e w3 ⟨a3, c3, rfl, hI3, _⟩
  go_wp2_with fail
  go_loop [10] (fun i => i = .int .i64 0) (fun _ => 0)
  case atStart => rfl
  case round =>
    obtain rfl := hrel
    go_wp2_with fail
    refine (sum_inv1 (l1 := []) hI3 (by simp)).mono ?_
    rintro e w4 ⟨rfl, hI4⟩
    go_wp2_with fail
    refine (own_inv (l := []) hI4 (by simp) (by simp)).mono ?_
    rintro e w5 ⟨a5, c5, rfl, hI5, _⟩
    go_wp2_with fail
    refine (sum_inv1 (l1 := []) hI5 (by simp)).mono ?_
    rintro e w6 ⟨rfl, hI6⟩
    go_wp2_with fail
    refine (sum_inv1 (l1 := []) hI6 (by simp)).mono ?_
    rintro e w7 ⟨rfl, hI7⟩
    have x1 := unhide X1
    have x2 := unhide X2
    go_wp2_with fail
    refine (sum_inv1 (l1 := []) hI7 (by simp)).mono ?_
    rintro e w8 ⟨rfl, hI8⟩
    go_wp2
    go_ret
    exact ⟨rfl, hI8.1⟩
end Go.Proofs.YtknlgclbdoencaaDoor
