/- Texts that the proof needs, one behind the other. -/
import Derived.Test.YtdelobaiicoogaaGreatDoorMaa
import Derived.LoopN
import Derived.Shelf.Strings.Trim
import Derived.Shelf.Strings.Prefix
import Derived.Shelf.Strings.Repeat
/- What the leaves do: the step of a byte by the table, and the sum of a text and of bytes, for every argument and in every world that holds the table. -/
namespace Go.Proofs.YtdelobaiicoogaaGreatDoor.L4
open Go.ChangeShapes Go.WideShapes Go.ChangeAt Go.RowKit

/-- the table lies in block 0 -/
def Tab (w : World) : Prop := ∀ i, i < 16 → w.cell? ⟨0, i, none⟩ = some (.int .u32 (Crc.tab i : Nat))

theorem and15 (x : Nat) (hx : x < 4294967296) : bits .and .u32 (x : Int) 15 = ((x % 16 : Nat) : Int) := by
  have h := u32_and_nat x 15 hx (by decide)
  have e : x &&& 15 = x % 16 := Nat.and_two_pow_sub_one_eq_mod x 4
  rw [e] at h
  exact h
theorem xor_u32 (a b : Nat) (ha : a < 4294967296) (hb : b < 4294967296) : bits .xor .u32 (a : Int) (b : Int) = ((a ^^^ b : Nat) : Int) := u32_xor_nat a b ha hb


/-- what the two tables' steps come to, in the walk's own spelling -/
def stepI (s b : Int) : Int :=
  bits .xor .u32 (bits .xor .u32 (bits .xor .u32 s b / 16) (Crc.tab (bits .and .u32 (bits .xor .u32 s b) 15).toNat : Nat) / 16)
    (Crc.tab (bits .and .u32 (bits .xor .u32 (bits .xor .u32 s b / 16) (Crc.tab (bits .and .u32 (bits .xor .u32 s b) 15).toNat : Nat)) 15).toNat : Nat)

theorem stepI_eq (s b : Nat) (hs : s < 4294967296) (hb : b < 256) : stepI s b = (Crc.bstep s b : Nat) := by
  have h1 : s ^^^ b < 4294967296 := by
    have : s ^^^ b < 2 ^ 32 := Nat.xor_lt_two_pow (by omega) (by omega)
    simpa using this
  have h2 : Crc.half (s ^^^ b) < 4294967296 := Crc.half_lt h1
  have e1 : bits .xor .u32 ((s : Nat) : Int) (b : Nat) = ((s ^^^ b : Nat) : Int) := xor_u32 s b hs (by omega)
  have step : ∀ x : Nat, x < 4294967296 → bits .xor .u32 ((x : Int) / 16) (Crc.tab (bits .and .u32 (x : Int) 15).toNat : Nat) = ((Crc.half x : Nat) : Int) := by
    intro x hx
    rw [and15 x hx, Int.toNat_natCast]
    have := xor_u32 (x / 16) (Crc.tab (x % 16)) (by omega) (Crc.tab_lt _)
    rw [Int.natCast_ediv] at this
    exact this
  unfold stepI
  rw [e1, step _ h1, step _ h2, Crc.halves_eq]

set_option maxHeartbeats 400000 in
theorem step_raw (s b : Int) (w : World) (c1 c2 : Nat) (hb : 0 ≤ b ∧ b < 256)
    (hi : 0 ≤ bits .and .u32 (bits .xor .u32 s b) 15 ∧ bits .and .u32 (bits .xor .u32 s b) 15 < 16)
    (hc : w.cell? ⟨0, (bits .and .u32 (bits .xor .u32 s b) 15).toNat, none⟩ = some (.int .u32 (c1 : Nat)))
    (hj : 0 ≤ bits .and .u32 (bits .xor .u32 (bits .xor .u32 s b / 16) c1) 15 ∧ bits .and .u32 (bits .xor .u32 (bits .xor .u32 s b / 16) c1) 15 < 16)
    (hd : w.cell? ⟨0, (bits .and .u32 (bits .xor .u32 (bits .xor .u32 s b / 16) c1) 15).toNat, none⟩ = some (.int .u32 (c2 : Nat))) :
    Calls Tryz.prog 169 #[.int .u32 s, .int .u8 b] w fun e w' => e = .returned (.int .u32 (bits .xor .u32 (bits .xor .u32 (bits .xor .u32 s b / 16) c1 / 16) c2)) ∧ w' = w := by
  go_enter Tryz.func169, Tryz.ntmps169
  go_wp2
  all_goals go_ret
  all_goals exact ⟨rfl, rfl⟩

theorem step_any (s b : Int) (w : World) (hT : Tab w) (hs : 0 ≤ s ∧ s < 4294967296) (hb : 0 ≤ b ∧ b < 256) :
    Calls Tryz.prog 169 #[.int .u32 s, .int .u8 b] w fun e w' => e = .returned (.int .u32 (Crc.bstep s.toNat b.toNat : Nat)) ∧ w' = w := by
  obtain ⟨S, rfl⟩ := Int.eq_ofNat_of_zero_le hs.1
  obtain ⟨B, rfl⟩ := Int.eq_ofNat_of_zero_le hb.1
  have hS : S < 4294967296 := by omega
  have hB : B < 256 := by omega
  have h1 : S ^^^ B < 4294967296 := by
    have : S ^^^ B < 2 ^ 32 := Nat.xor_lt_two_pow (by omega) (by omega)
    simpa using this
  have h2 : Crc.half (S ^^^ B) < 4294967296 := Crc.half_lt h1
  have e1 : bits .xor .u32 ((S : Nat) : Int) (B : Nat) = ((S ^^^ B : Nat) : Int) := xor_u32 S B hS (by omega)
  have e2 : bits .xor .u32 (((S ^^^ B : Nat) : Int) / 16) (Crc.tab ((S ^^^ B) % 16) : Nat) = ((Crc.half (S ^^^ B) : Nat) : Int) := by
    have := xor_u32 ((S ^^^ B) / 16) (Crc.tab ((S ^^^ B) % 16)) (by omega) (Crc.tab_lt _)
    rw [Int.natCast_ediv] at this
    exact this
  have e3 := stepI_eq S B hS hB
  have a1 := and15 (S ^^^ B) h1
  have a2 := and15 (Crc.half (S ^^^ B)) h2
  have H := step_raw S B w (Crc.tab ((S ^^^ B) % 16)) (Crc.tab (Crc.half (S ^^^ B) % 16)) hb
    (by rw [e1, a1]; omega) (by rw [e1, a1, Int.toNat_natCast]; exact hT _ (by omega))
    (by rw [e1, e2, a2]; omega) (by rw [e1, e2, a2, Int.toNat_natCast]; exact hT _ (by omega))
  refine H.mono fun e w' ⟨he, hw⟩ => ⟨?_, hw⟩
  rw [he, Int.toNat_natCast, Int.toNat_natCast, ← e3]
  unfold stepI
  rw [e1, a1, Int.toNat_natCast, e2, a2, Int.toNat_natCast]

theorem bn_take_lt (s : ByteArray) (k : Nat) : ∀ b ∈ (bn s).take k, b < 256 := fun b hb => bn_lt s b (List.mem_of_mem_take hb)
theorem bn_snoc (s : ByteArray) (k : Nat) (h : k < s.size) : (bn s).take (k + 1) = (bn s).take k ++ [s[k].toNat] := by
  rw [List.take_succ_eq_append_getElem (by rw [bn_length]; exact h)]
  simp only [bn, List.getElem_map]
  rfl

theorem not_u32 (n : Nat) (h : n < 4294967296) : bits .xor .u32 IntKind.u32.max (n : Int) = ((n ^^^ 4294967295 : Nat) : Int) := by
  have := xor_u32 4294967295 n (by decide) h
  rw [Nat.xor_comm] at this
  exact this

set_option maxHeartbeats 400000 in
theorem text_any (s : ByteArray) (w : World) (hT : Tab w) (hs : s.size ≤ maxLen) :
    Calls Tryz.prog 138 #[.string s] w fun e w' => e = .returned (.int .u32 (Crc.sum (bn s) : Nat)) ∧ w' = w := by
  unfold maxLen at hs
  have HT : Hid (Tab w) := hT
  clear hT
  go_enter Tryz.func138, Tryz.ntmps138
  go_wp2
  go_loop [3, 7] (fun t i => ∃ k : Nat, k ≤ s.size ∧ i = .int .i64 k ∧ t = .int .u32 (Crc.run 4294967295 ((bn s).take k) : Nat)) (fun _ i => s.size - (intOf i).toNat)
  case atStart => exact ⟨0, Nat.zero_le _, rfl, rfl⟩
  case round =>
    obtain ⟨k, hk, rfl, rfl⟩ := hrel
    have hr : Crc.run 4294967295 ((bn s).take k) < 4294967296 := Crc.run_lt _ (by decide) (bn_take_lt s k)
    by_cases hlt : k < s.size
    · have hb : (s[k].toNat : Int) < 256 := by have := s[k].toNat_lt; omega
      have HS : Hid (Crc.run 4294967295 ((bn s).take (k + 1)) = Crc.bstep (Crc.run 4294967295 ((bn s).take k)) s[k].toNat) := by
        show _ = _
        rw [bn_snoc s k hlt, Crc.run_snoc]
      generalize Crc.run 4294967295 ((bn s).take k) = r at *
      go_wp2_with (go_at_call 169; refine (step_any _ _ _ HT.out (by omega) (by omega)).mono ?_; rintro e w' ⟨rfl, rfl⟩)
      go_round
      case rel => exact ⟨k + 1, by omega, by go_num, by rw [HS.out]⟩
      case measure => simp [intOf]; omega
    · go_wp2
      go_ret
      refine ⟨ret_int ?_, rfl⟩
      have hall : (bn s).take k = bn s := List.take_of_length_le (by rw [bn_length]; omega)
      rw [hall] at hr ⊢
      exact not_u32 _ hr

/-- THE DOCUMENT's: eight shifts a byte -/
theorem and1 (x : Nat) (hx : x < 4294967296) : bits .and .u32 (x : Int) 1 = ((x % 2 : Nat) : Int) := by
  have h := u32_and_nat x 1 hx (by decide)
  rw [Nat.and_one_is_mod] at h
  exact h

theorem shn_succ (k x : Nat) : Crc.shn (k + 1) x = Crc.sh (Crc.shn k x) := by rw [Crc.shn_add]; rfl
theorem sh_odd (y : Nat) (h : y % 2 = 1) (hy : y < 4294967296) : bits .xor .u32 ((y : Int) / 2) 2197175160 = ((Crc.sh y : Nat) : Int) := by
  have := xor_u32 (y / 2) 2197175160 (by omega) (by decide)
  rw [Int.natCast_ediv] at this
  unfold Crc.sh
  rw [if_pos h]
  exact this
theorem sh_even (y : Nat) (h : ¬ y % 2 = 1) : (y : Int) / 2 = ((Crc.sh y : Nat) : Int) := by
  unfold Crc.sh
  rw [if_neg h]
  omega

set_option maxHeartbeats 400000 in
theorem refMore_any (c : Int) (s : ByteArray) (w : World) (hc : 0 ≤ c ∧ c < 4294967296) (hs : s.size ≤ maxLen) :
    Calls Tryz.prog 111 #[.int .u32 c, .string s] w fun e w' => e = .returned (.int .u32 (Crc.more c.toNat (bn s) : Nat)) ∧ w' = w := by
  unfold maxLen at hs
  obtain ⟨C, rfl⟩ := Int.eq_ofNat_of_zero_le hc.1
  have hC : C < 4294967296 := by omega
  have hn := not_u32 C hC
  have hnl := Crc.not_lt hC
  rw [Int.toNat_natCast]
  go_enter Tryz.func111, Tryz.ntmps111
  go_wp2
  go_loop [0, 5] (fun t i => ∃ k : Nat, k ≤ s.size ∧ i = .int .i64 k ∧ t = .int .u32 (Crc.run (C ^^^ 4294967295) ((bn s).take k) : Nat)) (fun _ i => s.size - (intOf i).toNat)
  case atStart => exact ⟨0, Nat.zero_le _, rfl, rfl⟩
  case round =>
    obtain ⟨k, hk, rfl, rfl⟩ := hrel
    clear hn
    have hr : Crc.run (C ^^^ 4294967295) ((bn s).take k) < 4294967296 := Crc.run_lt _ hnl (bn_take_lt s k)
    by_cases hlt : k < s.size
    · have hb : s[k].toNat < 256 := s[k].toNat_lt
      have HS : Hid (Crc.run (C ^^^ 4294967295) ((bn s).take (k + 1)) = Crc.bstep (Crc.run (C ^^^ 4294967295) ((bn s).take k)) s[k].toNat) := by
        show _ = _
        rw [bn_snoc s k hlt, Crc.run_snoc]
      generalize Crc.run (C ^^^ 4294967295) ((bn s).take k) = r at *
      have hx := xor_u32 r s[k].toNat hr (by omega)
      have hxl : r ^^^ s[k].toNat < 4294967296 := by
        have : r ^^^ s[k].toNat < 2 ^ 32 := Nat.xor_lt_two_pow (by omega) (by omega)
        simpa using this
      go_wp2
      go_loop [0, 6] (fun t i => ∃ m : Nat, m ≤ 8 ∧ i = .int .i64 m ∧ t = .int .u32 (Crc.shn m (r ^^^ s[k].toNat) : Nat)) (fun _ i => 8 - (intOf i).toNat)
      case atStart => exact ⟨0, Nat.zero_le _, rfl, rfl⟩
      case round =>
        obtain ⟨m, hm, rfl, rfl⟩ := hrel
        have hy : Crc.shn m (r ^^^ s[k].toNat) < 4294967296 := Crc.shn_lt m hxl
        have HM : Hid (Crc.shn (m + 1) (r ^^^ s[k].toNat) = Crc.sh (Crc.shn m (r ^^^ s[k].toNat))) := shn_succ _ _
        have HE : Hid (m = 8 → Crc.shn m (r ^^^ s[k].toNat) = Crc.bstep r s[k].toNat) := fun h => by rw [h]; rfl
        clear hx
        by_cases hlt8 : m < 8
        · clear HE
          generalize Crc.shn m (r ^^^ s[k].toNat) = y at *
          by_cases ho : y % 2 = 1
          · have ha : bits .and .u32 (y : Int) 1 = 1 := by rw [and1 y hy, ho]; rfl
            have hz := sh_odd y ho hy
            clear ho
            go_wp2
            go_round
            case rel => exact ⟨m + 1, by omega, by go_num, by rw [HM.out]⟩
            case measure => simp [intOf]; omega
          · have ha : bits .and .u32 (y : Int) 1 = 0 := by rw [and1 y hy]; omega
            have HZ : Hid ((y : Int) / 2 = ((Crc.sh y : Nat) : Int)) := sh_even y ho
            clear ho
            go_wp2
            go_round
            case rel => exact ⟨m + 1, by omega, by go_num, by rw [HM.out, HZ.out]⟩
            case measure => simp [intOf]; omega
        · have HF := HE.out (by omega)
          clear HE HM
          generalize Crc.shn m (r ^^^ s[k].toNat) = y at *
          have HF' : Hid (y = Crc.bstep r s[k].toNat) := HF
          clear HF
          go_wp2
          go_round
          case rel => exact ⟨k + 1, by omega, by go_num, by rw [HS.out, HF'.out]⟩
          case measure => simp [intOf]; omega
    · go_wp2
      go_ret
      refine ⟨ret_int ?_, rfl⟩
      have hall : (bn s).take k = bn s := List.take_of_length_le (by rw [bn_length]; omega)
      rw [hall] at hr ⊢
      exact not_u32 _ hr
set_option maxHeartbeats 400000 in
theorem refSum_any (s : ByteArray) (w : World) (hs : s.size ≤ maxLen) :
    Calls Tryz.prog 67 #[.string s] w fun e w' => e = .returned (.int .u32 (Crc.sum (bn s) : Nat)) ∧ w' = w := by
  go_enter Tryz.func67, Tryz.ntmps67
  go_wp2_with (go_at_call 111; refine (refMore_any _ _ _ (by omega) hs).mono ?_; rintro e w' ⟨rfl, rfl⟩)
  go_ret
  exact ⟨rfl, rfl⟩

end Go.Proofs.YtdelobaiicoogaaGreatDoor.L4

/- The plain mathematics of a block's sector: its bytes, which bytes are one, there and back, turned bits. No program is spoken of here. -/
namespace Go.Proofs.YtdelobaiicoogaaGreatDoor.L4.Blk

/-- a sum in four bytes, the lowest first -/
def le4 (c : Nat) : List Nat := [c % 256, c / 256 % 256, c / 65536 % 256, c / 16777216 % 256]
def num4 (a b c d : Nat) : Nat := a + b * 256 + c * 65536 + d * 16777216
theorem le4_num4 {a b c d : Nat} (ha : a < 256) (hb : b < 256) (hc : c < 256) (hd : d < 256) : le4 (num4 a b c d) = [a, b, c, d] := by
  simp only [le4, num4, List.cons.injEq, and_true]
  omega
theorem num4_le4 {c : Nat} (h : c < 4294967296) : num4 (c % 256) (c / 256 % 256) (c / 65536 % 256) (c / 16777216 % 256) = c := by
  unfold num4
  omega
theorem le4_lt (c : Nat) : ∀ b ∈ le4 c, b < 256 := by
  intro b hb
  simp only [le4, List.mem_cons, List.not_mem_nil, or_false] at hb
  rcases hb with rfl | rfl | rfl | rfl <;> exact Nat.mod_lt _ (by decide)
theorem num4_eq {a b c d x : Nat} (ha : a < 256) (hb : b < 256) (hc : c < 256) (hd : d < 256) (hx : x < 4294967296) : [a, b, c, d] = le4 x ↔ x = num4 a b c d := by
  constructor
  · intro h
    simp only [le4, List.cons.injEq, and_true] at h
    obtain ⟨rfl, rfl, rfl, rfl⟩ := h
    exact (num4_le4 hx).symm
  · rintro rfl
    exact (le4_num4 ha hb hc hd).symm

/-- THE DOCUMENT's: a block's sector -/
def head (k n g : Nat) : List Nat := [67, 80, k, n / 256, n % 256] ++ Pk.fixL g
def body (k g : Nat) (p : List Nat) : List Nat := head k p.length g ++ (p ++ List.replicate (1007 - p.length) 0)
def sector (k g : Nat) (p : List Nat) : List Nat := body k g p ++ le4 (Crc.sum (body k g p))
theorem body_length (k g : Nat) (p : List Nat) (hp : p.length ≤ 1007) : (body k g p).length = 1020 := by
  simp only [body, head, List.length_append, List.length_cons, List.length_nil, List.length_replicate, Pk.fixL_length]
  omega
theorem sector_length (k g : Nat) (p : List Nat) (hp : p.length ≤ 1007) : (sector k g p).length = 1024 := by
  simp only [sector, List.length_append, body_length k g p hp, le4, List.length_cons, List.length_nil]
theorem body_lt {k g : Nat} {p : List Nat} (hk : k < 256) (hn : p.length ≤ 1007) (hp : ∀ b ∈ p, b < 256) : ∀ b ∈ body k g p, b < 256 := by
  intro b hb
  simp only [body, head, List.mem_append, List.mem_cons, List.not_mem_nil, or_false, List.mem_replicate] at hb
  rcases hb with (h | h) | h | h
  · omega
  · exact Pk.fixL_lt g b h
  · exact hp b h
  · omega
theorem sector_lt {k g : Nat} {p : List Nat} (hk : k < 256) (hn : p.length ≤ 1007) (hp : ∀ b ∈ p, b < 256) : ∀ b ∈ sector k g p, b < 256 := by
  intro b hb
  rcases List.mem_append.1 hb with h | h
  · exact body_lt hk hn hp b h
  · exact le4_lt _ b h

/-- what is asked of a sector -/
def lenOf (l : List Nat) : Nat := l.getD 3 0 * 256 + l.getD 4 0
def genOf (l : List Nat) : Nat := Pk.fixN ((l.drop 5).take 8)
def Fits (l : List Nat) : Prop := l.drop 1020 = le4 (Crc.sum (l.take 1020))
def Good (l : List Nat) : Prop := l.take 2 = [67, 80] ∧ lenOf l ≤ 1007 ∧ genOf l ≤ 1152921504606846976 ∧ ∀ x ∈ (l.take 1020).drop (13 + lenOf l), x = 0
def payOf (l : List Nat) : List Nat := (l.drop 13).take (lenOf l)

theorem take_body (k g : Nat) (p : List Nat) (hp : p.length ≤ 1007) : (sector k g p).take 1020 = body k g p := by
  unfold sector
  rw [List.take_append_of_le_length (by rw [body_length k g p hp]; exact Nat.le_refl _), List.take_of_length_le (by rw [body_length k g p hp]; exact Nat.le_refl _)]
theorem drop_body (k g : Nat) (p : List Nat) (hp : p.length ≤ 1007) : (sector k g p).drop 1020 = le4 (Crc.sum (body k g p)) := by
  unfold sector
  rw [List.drop_append_of_le_length (by rw [body_length k g p hp]; exact Nat.le_refl _), List.drop_of_length_le (by rw [body_length k g p hp]; exact Nat.le_refl _)]
  rfl
theorem fits_sector (k g : Nat) (p : List Nat) (hp : p.length ≤ 1007) : Fits (sector k g p) := by
  unfold Fits
  rw [take_body k g p hp, drop_body k g p hp]
theorem lenOf_sector (k g : Nat) (p : List Nat) : lenOf (sector k g p) = p.length := by
  show p.length / 256 * 256 + p.length % 256 = _
  omega
theorem genOf_sector (k g : Nat) (p : List Nat) (hg : g < 18446744073709551616) : genOf (sector k g p) = g := by
  have e : ((sector k g p).drop 5).take 8 = Pk.fixL g := rfl
  unfold genOf
  rw [e, Pk.fixN_fixL g hg]
theorem kind_sector (k g : Nat) (p : List Nat) : (sector k g p).getD 2 0 = k := rfl
theorem rest_sector (k g : Nat) (p : List Nat) : (sector k g p).drop 13 = p ++ List.replicate (1007 - p.length) 0 ++ le4 (Crc.sum (body k g p)) := rfl
theorem payOf_sector (k g : Nat) (p : List Nat) : payOf (sector k g p) = p := by
  unfold payOf
  rw [lenOf_sector, rest_sector, List.append_assoc, List.take_append_of_le_length (Nat.le_refl _), List.take_of_length_le (Nat.le_refl _)]
theorem good_sector (k g : Nat) (p : List Nat) (hp : p.length ≤ 1007) (hg : g ≤ 1152921504606846976) : Good (sector k g p) := by
  refine ⟨rfl, by rw [lenOf_sector]; exact hp, by rw [genOf_sector k g p (by omega)]; exact hg, ?_⟩
  intro x hx
  rw [lenOf_sector, take_body k g p hp, ← List.drop_drop] at hx
  have e : (body k g p).drop 13 = p ++ List.replicate (1007 - p.length) 0 := rfl
  rw [e, List.drop_append_of_le_length (Nat.le_refl _), List.drop_of_length_le (Nat.le_refl _), List.nil_append] at hx
  exact (List.mem_replicate.1 hx).2

/-- zeros are no block -/
theorem z0 : Crc.shn 1020 4294967295 = 1265583391 := by decide +kernel
theorem z1 : Crc.shn 1020 1265583391 = 3929728358 := by decide +kernel
theorem z2 : Crc.shn 1020 3929728358 = 1269030502 := by decide +kernel
theorem z3 : Crc.shn 1020 1269030502 = 3830750836 := by decide +kernel
theorem z4 : Crc.shn 1020 3830750836 = 3456249395 := by decide +kernel
theorem z5 : Crc.shn 1020 3456249395 = 1218594573 := by decide +kernel
end Go.Proofs.YtdelobaiicoogaaGreatDoor.L4.Blk

/- What block's sum does: the sum of a text in four bytes. -/
namespace Go.Proofs.YtdelobaiicoogaaGreatDoor.L4
open Go.ChangeShapes Go.WideShapes Go.ChangeAt Go.RowKit

theorem four_conv (w : World) (a b c d : Int) :
    (convert 140 9 (.slice (some ⟨w.heap.size, 0, none⟩) 4 4)).run Tryz.prog (w.alloc (.cells #[.int .u8 a, .int .u8 b, .int .u8 c, .int .u8 d] 5)) = .ok (.string (strOfNums [a, b, c, d])) (w.alloc (.cells #[.int .u8 a, .int .u8 b, .int .u8 c, .int .u8 d] 5)) :=
  run_convert_bytes_arg _ 140 5 Tryz.underlying140 Tryz.underlying5 w.heap.size 0 4 4 [a, b, c, d] (by simp) (fun i hi => by
    have e : i = 0 ∨ i = 1 ∨ i = 2 ∨ i = 3 := by omega
    rcases e with rfl | rfl | rfl | rfl <;> simp) 9 Tryz.underlying9
theorem four_le (c : Nat) {x y z u : Int} (hx : x = ((c % 256 : Nat) : Int)) (hy : y = ((c / 256 % 256 : Nat) : Int)) (hz : z = ((c / 65536 % 256 : Nat) : Int)) (hu : u = ((c / 16777216 % 256 : Nat) : Int)) :
    strOfNums [x, y, z, u] = strOf (Blk.le4 c) := by
  rw [hx, hy, hz, hu]
  rfl
theorem ret_str {a b : ByteArray} (h : a = b) : Ending.returned (.string a) = .returned (.string b) := by rw [h]

set_option maxHeartbeats 400000 in
theorem sumOf_any (s : ByteArray) (w : World) (hT : Tab w) (hs : s.size ≤ maxLen) :
    Calls Tryz.prog 101 #[.string s] w fun e w' => e = .returned (.string (strOf (Blk.le4 (Crc.sum (bn s))))) ∧ Below w.heap.size w w' := by
  have hc := Crc.sum_lt (bn s) (bn_lt s)
  have HS := hide (text_any s w hT hs)
  have hv := four_conv w
  clear hT
  generalize Crc.sum (bn s) = c at *
  go_enter Tryz.func101, Tryz.ntmps101
  go_wp2_with (go_at_call 138; refine (unhide HS).mono ?_; rintro e w' ⟨rfl, hw⟩; have hw := hw.symm; subst hw)
  go_ret
  exact ⟨ret_str (four_le c (by omega) (by omega) (by omega) (by omega)), (Below.refl _ _).alloc (Nat.le_refl _) _⟩
end Go.Proofs.YtdelobaiicoogaaGreatDoor.L4

/- What the two Fixeds do: a fixed number's bytes. -/
namespace Go.Proofs.YtdelobaiicoogaaGreatDoor.L4
open Go.ChangeShapes Go.WideShapes Go.ChangeAt Go.RowKit

theorem fixed_conv (N : Nat) (hN : N < 18446744073709551616) (w : World) :
    (convert 140 9 (.slice (some ⟨w.heap.size, 0, none⟩) 8 8)).run Tryz.prog (w.alloc (.cells #[.int .u8 ((N : Int) / 72057594037927936), .int .u8 ((N : Int) / 281474976710656 % 256), .int .u8 ((N : Int) / 1099511627776 % 256), .int .u8 ((N : Int) / 4294967296 % 256),
        .int .u8 ((N : Int) / 16777216 % 256), .int .u8 ((N : Int) / 65536 % 256), .int .u8 ((N : Int) / 256 % 256), .int .u8 ((N : Int) % 256)] 246)) =
      .ok (.string (strOf (Pk.fixL N))) (w.alloc (.cells #[.int .u8 ((N : Int) / 72057594037927936), .int .u8 ((N : Int) / 281474976710656 % 256), .int .u8 ((N : Int) / 1099511627776 % 256), .int .u8 ((N : Int) / 4294967296 % 256),
        .int .u8 ((N : Int) / 16777216 % 256), .int .u8 ((N : Int) / 65536 % 256), .int .u8 ((N : Int) / 256 % 256), .int .u8 ((N : Int) % 256)] 246)) := by
  refine conv_row w.heap.size 8 (Pk.fixL N) _ (fun i hi => ?_)
  have hi8 : i < 8 := hi
  have d : ∀ i : Nat, i < 8 → i = 0 ∨ i = 1 ∨ i = 2 ∨ i = 3 ∨ i = 4 ∨ i = 5 ∨ i = 6 ∨ i = 7 := by omega
  rcases d i hi8 with rfl | rfl | rfl | rfl | rfl | rfl | rfl | rfl <;> simp [Pk.fixL]
  omega

set_option maxRecDepth 10000 in
set_option maxHeartbeats 1000000 in
theorem fixed_any (n : Int) (w : World) (hn : 0 ≤ n ∧ n < 18446744073709551616) :
    Calls Tryz.prog 99 #[.int .u64 n] w fun e w' => e = .returned (.string (strOf (Pk.fixL n.toNat))) ∧ Below w.heap.size w w' := by
  obtain ⟨N, rfl⟩ := Int.eq_ofNat_of_zero_le hn.1
  have hN : N < 18446744073709551616 := by omega
  rw [Int.toNat_natCast]
  have hcv := fixed_conv N hN w
  go_enter Tryz.func99, Tryz.ntmps99
  go_wp2
  refine wp_loop_rounds 9 ?_
  rw [rounds_succ]
  go_wp2
  iterate 8 (rw [rounds_succ]; go_wp2)
  go_ret
  exact ⟨rfl, (Below.refl _ _).alloc (Nat.le_refl _) _⟩

theorem strOf_append (l r : List Nat) : strOf (l ++ r) = strOf l ++ strOf r := by
  apply ByteArray.ext
  apply Array.toList_inj.1
  rw [ByteArray.data_append, Array.toList_append]
  unfold strOf
  simp only [strOfNums_data, List.map_append]
theorem strOf_one (x : Nat) : strOfNums [(x : Int)] = strOf [x] := rfl

theorem one_conv (w : World) (x : Int) :
    (convert 140 9 (.slice (some ⟨w.heap.size, 0, none⟩) 1 1)).run Tryz.prog (w.alloc (.cells #[.int .u8 x] 5)) = .ok (.string (strOfNums [x])) (w.alloc (.cells #[.int .u8 x] 5)) :=
  run_convert_bytes_arg _ 140 5 Tryz.underlying140 Tryz.underlying5 w.heap.size 0 1 1 [x] (by simp) (fun i hi => by
    have : i = 0 := by omega
    subst this
    simp) 9 Tryz.underlying9

theorem fixed_step (N j : Nat) (x : Int) (hj : j < 8) (hx : x = ((Pk.fixL N).getD j 0 : Nat)) : strOf ((Pk.fixL N).take j) ++ strOfNums [x] = strOf ((Pk.fixL N).take (j + 1)) := by
  have h8 : j < (Pk.fixL N).length := hj
  rw [hx, strOf_one, ← strOf_append, List.take_succ_eq_append_getElem h8, List.getD_eq_getElem?_getD, List.getElem?_eq_getElem h8]
  rfl

set_option maxRecDepth 10000 in
set_option maxHeartbeats 2000000 in
theorem refFixed_any (n : Int) (w : World) (hn : 0 ≤ n ∧ n < 18446744073709551616) :
    Calls Tryz.prog 66 #[.int .u64 n] w fun e w' => e = .returned (.string (strOf (Pk.fixL n.toNat))) ∧ Below w.heap.size w w' := by
  obtain ⟨N, rfl⟩ := Int.eq_ofNat_of_zero_le hn.1
  have hN : N < 18446744073709551616 := by omega
  rw [Int.toNat_natCast]
  generalize hB : w.heap.size = B at *
  have HB := hide hB
  clear hB
  have hz1 : ∀ x : Int, (strOfNums [x]).size = 1 := fun x => by rw [strOfNums_size]; rfl
  go_enter Tryz.func66, Tryz.ntmps66
  go_wp2
  go_loopw [3, 4] (fun t k wr => ∃ j : Nat, j ≤ 8 ∧ k = .int .i64 (56 - 8 * j) ∧ t = .string (strOf ((Pk.fixL N).take j)) ∧ Below B w wr) (fun _ k _ => (intOf k + 8).toNat)
  case atStart => exact ⟨0, by omega, rfl, rfl, Below.refl _ _⟩
  case round =>
    obtain ⟨j, hj, rfl, rfl, hbel⟩ := hrel
    have hBw : B ≤ wr.heap.size := by have := hbel.size; have := unhide HB; omega
    have hz : (strOf ((Pk.fixL N).take j)).size ≤ 8 := by rw [strOf_size, List.length_take]; omega
    have hcv := one_conv wr
    have HBel := hide hbel
    clear hbel
    have HS := hide (fixed_step N j)
    have HE : Hid (j = 8 → strOf ((Pk.fixL N).take j) = strOf (Pk.fixL N)) := fun h => by subst h; rfl
    generalize strOf ((Pk.fixL N).take j) = S at *
    have d : j = 0 ∨ j = 1 ∨ j = 2 ∨ j = 3 ∨ j = 4 ∨ j = 5 ∨ j = 6 ∨ j = 7 ∨ j = 8 := by omega
    rcases d with rfl | rfl | rfl | rfl | rfl | rfl | rfl | rfl | rfl
    case inr.inr.inr.inr.inr.inr.inr.inr =>
      obtain rfl := unhide HE rfl
      go_wp2
      go_ret
      exact ⟨rfl, unhide HBel⟩
    all_goals
      go_wp2
      go_roundw
      case rel =>
        refine ⟨_, ?_, ?_, congrArg Value.string (unhide HS _ (by decide) ?_), (unhide HBel).alloc hBw _⟩
        · decide
        · rfl
        · simp [Pk.fixL]
          try omega
      case measure => simp [intOf]
end Go.Proofs.YtdelobaiicoogaaGreatDoor.L4

/- What three calls of Go's library do: Trim at one byte, HasPrefix, Repeat: the library's own contracts, laid at this program's numbers. -/
namespace Go.Proofs.YtdelobaiicoogaaGreatDoor.L4
open Go.Shelf
def lays160_ren : Go.Shelf.Ren := ⟨fun | 160 => 206 | 232 => 228 | 231 => 227 | 227 => 229 | 234 => 231 | 233 => 230 | 236 => 233 | 235 => 232 | 228 => 249 | 271 => 252 | 151 => 251 | 197 => 250 | 120 => 269 | 152 => 268 | 260 => 267 | 137 => 274 | 119 => 275 | 224 => 276 | 225 => 277 | 217 => 280 | 266 => 284 | n => n, fun | 9 => 9 | 4 => 4 | 3 => 3 | 5 => 5 | 117 => 353 | 116 => 352 | 0 => 0 | 124 => 356 | 21 => 21 | 105 => 370 | 46 => 158 | 119 => 385 | 139 => 388 | 138 => 387 | n => n, fun | 3 => 2 | 4 => 3 | n => n⟩
theorem lays160 : Go.Proofs.Lays.n160 Tryz.prog lays160_ren := {
  mixed := by kernel_rfl
  f119 := Tryz.func275.trans (congrArg some (by kernel_rfl))
  f120 := Tryz.func269.trans (congrArg some (by kernel_rfl))
  f137 := Tryz.func274.trans (congrArg some (by kernel_rfl))
  f151 := Tryz.func251.trans (congrArg some (by kernel_rfl))
  f152 := Tryz.func268.trans (congrArg some (by kernel_rfl))
  f160 := Tryz.func206.trans (congrArg some (by kernel_rfl))
  f197 := Tryz.func250.trans (congrArg some (by kernel_rfl))
  f217 := Tryz.func280.trans (congrArg some (by kernel_rfl))
  f224 := Tryz.func276.trans (congrArg some (by kernel_rfl))
  f225 := Tryz.func277.trans (congrArg some (by kernel_rfl))
  f227 := Tryz.func229.trans (congrArg some (by kernel_rfl))
  f228 := Tryz.func249.trans (congrArg some (by kernel_rfl))
  f231 := Tryz.func227.trans (congrArg some (by kernel_rfl))
  f232 := Tryz.func228.trans (congrArg some (by kernel_rfl))
  f233 := Tryz.func230.trans (congrArg some (by kernel_rfl))
  f234 := Tryz.func231.trans (congrArg some (by kernel_rfl))
  f235 := Tryz.func232.trans (congrArg some (by kernel_rfl))
  f236 := Tryz.func233.trans (congrArg some (by kernel_rfl))
  f260 := Tryz.func267.trans (congrArg some (by kernel_rfl))
  f266 := Tryz.func284.trans (congrArg some (by kernel_rfl))
  f271 := Tryz.func252.trans (congrArg some (by kernel_rfl))
  t0 := Tryz.underlying0
  a0 := Tryz.isAgg0
  z0 := Tryz.sizeOf0
  v0 := Tryz.zeroValue0
  t3 := Tryz.underlying3
  a3 := Tryz.isAgg3
  z3 := Tryz.sizeOf3
  v3 := Tryz.zeroValue3
  t4 := Tryz.underlying4
  a4 := Tryz.isAgg4
  z4 := Tryz.sizeOf4
  v4 := Tryz.zeroValue4
  t5 := Tryz.underlying5
  a5 := Tryz.isAgg5
  z5 := Tryz.sizeOf5
  v5 := Tryz.zeroValue5
  t9 := Tryz.underlying9
  a9 := Tryz.isAgg9
  z9 := Tryz.sizeOf9
  v9 := Tryz.zeroValue9
  t21 := Tryz.underlying21
  a21 := Tryz.isAgg21
  z21 := Tryz.sizeOf21
  v21 := Tryz.zeroValue21
  t46 := Tryz.underlying158
  a46 := Tryz.isAgg158
  z46 := Tryz.sizeOf158
  v46 := Tryz.zeroValue158
  t105 := Tryz.underlying370
  a105 := Tryz.isAgg370
  z105 := Tryz.sizeOf370
  v105 := Tryz.zeroValue370
  t116 := Tryz.underlying352
  a116 := Tryz.isAgg352
  z116 := Tryz.sizeOf352
  t117 := Tryz.underlying353
  a117 := Tryz.isAgg353
  z117 := Tryz.sizeOf353
  v117 := Tryz.zeroValue353
  t119 := Tryz.underlying385
  a119 := Tryz.isAgg385
  z119 := Tryz.sizeOf385
  t124 := Tryz.underlying356
  a124 := Tryz.isAgg356
  z124 := Tryz.sizeOf356
  v124 := Tryz.zeroValue356
  t138 := Tryz.underlying387
  a138 := Tryz.isAgg387
  z138 := Tryz.sizeOf387
  v138 := Tryz.zeroValue387
  t139 := Tryz.underlying388
  a139 := Tryz.isAgg388
  z139 := Tryz.sizeOf388
  v139 := Tryz.zeroValue388
  g3 := by kernel_rfl
  g4 := by kernel_rfl }
def lays99_ren : Go.Shelf.Ren := ⟨fun | 99 => 133 | 206 => 166 | n => n, fun | 9 => 9 | 4 => 4 | 3 => 3 | n => n, fun | n => n⟩
theorem lays99 : Go.Proofs.Lays.n99 Tryz.prog lays99_ren := {
  mixed := by kernel_rfl
  f99 := Tryz.func133.trans (congrArg some (by kernel_rfl))
  f206 := Tryz.func166.trans (congrArg some (by kernel_rfl))
  t3 := Tryz.underlying3
  a3 := Tryz.isAgg3
  z3 := Tryz.sizeOf3
  v3 := Tryz.zeroValue3
  t4 := Tryz.underlying4
  a4 := Tryz.isAgg4
  z4 := Tryz.sizeOf4
  v4 := Tryz.zeroValue4
  t9 := Tryz.underlying9
  a9 := Tryz.isAgg9
  z9 := Tryz.sizeOf9
  v9 := Tryz.zeroValue9 }
def lays105_ren : Go.Shelf.Ren := ⟨fun | 105 => 100 | 212 => 132 | 99 => 133 | 165 => 134 | 166 => 135 | 170 => 136 | 169 => 137 | 263 => 164 | 264 => 165 | 206 => 166 | 240 => 167 | 241 => 168 | 276 => 201 | 277 => 202 | n => n, fun | 9 => 9 | 3 => 3 | 4 => 4 | 20 => 20 | 0 => 0 | 46 => 158 | 109 => 247 | 5 => 5 | 72 => 251 | 76 => 254 | 51 => 161 | 146 => 283 | 53 => 160 | 148 => 285 | 70 => 249 | 37 => 140 | 75 => 253 | 127 => 287 | 164 => 321 | 80 => 67 | n => n, fun | n => n⟩
theorem lays105 : Go.Proofs.Lays.n105 Tryz.prog lays105_ren := {
  mixed := by kernel_rfl
  f99 := Tryz.func133.trans (congrArg some (by kernel_rfl))
  f105 := Tryz.func100.trans (congrArg some (by kernel_rfl))
  f165 := Tryz.func134.trans (congrArg some (by kernel_rfl))
  f166 := Tryz.func135.trans (congrArg some (by kernel_rfl))
  f169 := Tryz.func137.trans (congrArg some (by kernel_rfl))
  f170 := Tryz.func136.trans (congrArg some (by kernel_rfl))
  f206 := Tryz.func166.trans (congrArg some (by kernel_rfl))
  f212 := Tryz.func132.trans (congrArg some (by kernel_rfl))
  f240 := Tryz.func167.trans (congrArg some (by kernel_rfl))
  f241 := Tryz.func168.trans (congrArg some (by kernel_rfl))
  f263 := Tryz.func164.trans (congrArg some (by kernel_rfl))
  f264 := Tryz.func165.trans (congrArg some (by kernel_rfl))
  f276 := Tryz.func201.trans (congrArg some (by kernel_rfl))
  f277 := Tryz.func202.trans (congrArg some (by kernel_rfl))
  t0 := Tryz.underlying0
  a0 := Tryz.isAgg0
  z0 := Tryz.sizeOf0
  v0 := Tryz.zeroValue0
  t3 := Tryz.underlying3
  a3 := Tryz.isAgg3
  z3 := Tryz.sizeOf3
  v3 := Tryz.zeroValue3
  t4 := Tryz.underlying4
  a4 := Tryz.isAgg4
  z4 := Tryz.sizeOf4
  v4 := Tryz.zeroValue4
  t5 := Tryz.underlying5
  a5 := Tryz.isAgg5
  z5 := Tryz.sizeOf5
  v5 := Tryz.zeroValue5
  t9 := Tryz.underlying9
  a9 := Tryz.isAgg9
  z9 := Tryz.sizeOf9
  v9 := Tryz.zeroValue9
  t20 := Tryz.underlying20
  a20 := Tryz.isAgg20
  z20 := Tryz.sizeOf20
  v20 := Tryz.zeroValue20
  t37 := Tryz.underlying140
  a37 := Tryz.isAgg140
  z37 := Tryz.sizeOf140
  v37 := Tryz.zeroValue140
  t46 := Tryz.underlying158
  a46 := Tryz.isAgg158
  z46 := Tryz.sizeOf158
  v46 := Tryz.zeroValue158
  t51 := Tryz.underlying161
  a51 := Tryz.isAgg161
  z51 := Tryz.sizeOf161
  v51 := Tryz.zeroValue161
  t53 := Tryz.underlying160
  a53 := Tryz.isAgg160
  z53 := Tryz.sizeOf160
  v53 := Tryz.zeroValue160
  t70 := Tryz.underlying249
  a70 := Tryz.isAgg249
  z70 := Tryz.sizeOf249
  v70 := Tryz.zeroValue249
  t72 := Tryz.underlying251
  a72 := Tryz.isAgg251
  z72 := Tryz.sizeOf251
  v72 := Tryz.zeroValue251
  t75 := Tryz.underlying253
  a75 := Tryz.isAgg253
  z75 := Tryz.sizeOf253
  v75 := Tryz.zeroValue253
  t76 := Tryz.underlying254
  a76 := Tryz.isAgg254
  z76 := Tryz.sizeOf254
  v76 := Tryz.zeroValue254
  t109 := Tryz.underlying247
  a109 := Tryz.isAgg247
  z109 := Tryz.sizeOf247
  v109 := Tryz.zeroValue247
  t127 := Tryz.underlying287
  a127 := Tryz.isAgg287
  z127 := Tryz.sizeOf287
  v127 := Tryz.zeroValue287
  t146 := Tryz.underlying283
  a146 := Tryz.isAgg283
  z146 := Tryz.sizeOf283
  v146 := Tryz.zeroValue283
  t148 := Tryz.underlying285
  a148 := Tryz.isAgg285
  z148 := Tryz.sizeOf285
  v148 := Tryz.zeroValue285
  t164 := Tryz.underlying321
  a164 := Tryz.isAgg321
  z164 := Tryz.sizeOf321
  v164 := Tryz.zeroValue321 }
theorem Builder_Extra_105 : Builder.Extra Tryz.prog lays105_ren := {
  sizeBuilder := by kernel_rfl
  liesBuilder := by kernel_rfl
  t5 := Tryz.underlying5
  a5 := Tryz.isAgg5
  z5 := Tryz.sizeOf5
  v5 := Tryz.zeroValue5
  infoByte := by kernel_rfl
  cellsByte := by kernel_rfl
  sizeByte := by kernel_rfl
  neB5 := by decide }
open Go.RowKit in
theorem trim_any (s : ByteArray) (w : World) (hs : s.size ≤ 9223372036854775807) :
    Calls Tryz.prog 206 #[.string s, .string ⟨#[0]⟩] w fun e w' => e = .returned (.string ⟨(Lib.trimB s.data.toList 0).toArray⟩) ∧ (w' = w ∨ w' = w.drew) := Any.strings_Trim_one lays160 s 0 (by decide) w hs
open Go.RowKit Go.Lib in
theorem prefix_any (s p : ByteArray) (w : World) :
    Calls Tryz.prog 133 #[.string s, .string p] w fun e w' => e = .returned (.bool (Lib.hasPrefix s.data.toList p.data.toList)) ∧ w' = w := Any.strings_HasPrefix lays99 s p w
open Go.RowKit Go.Lib in
theorem repeat_any (s : ByteArray) (c : Nat) (w : World) (hc : c ≤ 9223372036854775807) (hlen : s.size * c ≤ 140737488355328) :
    Calls Tryz.prog 100 #[.string s, .int .i64 c] w fun e w' => e = .returned (.string ⟨(Lib.repeatL s.data.toList c).toArray⟩) ∧ Below w.heap.size w w' := Any.strings_Repeat lays105 Builder_Extra_105 s c w hc hlen

theorem repeatL_one (x : UInt8) : ∀ n, Lib.repeatL [x] n = List.replicate n x
  | 0 => rfl
  | n + 1 => by
    unfold Lib.repeatL
    rw [repeatL_one x n]
    rfl
/-- so many zeros -/
def zeros (n : Nat) : ByteArray := strOf (List.replicate n 0)
theorem zeros_data (n : Nat) : (zeros n).data.toList = List.replicate n 0 := by
  unfold zeros strOf
  rw [strOfNums_data, List.map_map, List.map_replicate]
  rfl
open Go.RowKit in
theorem zeros_any (n : Nat) (w : World) (hn : n ≤ 1007) : Calls Tryz.prog 100 #[.string ⟨#[0]⟩, .int .i64 n] w fun e w' => e = .returned (.string (zeros n)) ∧ Below w.heap.size w w' := by
  refine (repeat_any ⟨#[0]⟩ n w (by omega) (by show 1 * n ≤ _; omega)).mono ?_
  rintro e w' ⟨rfl, hb⟩
  refine ⟨?_, hb⟩
  show Ending.returned (.string ⟨(Lib.repeatL [0] n).toArray⟩) = _
  rw [repeatL_one]
  congr 2
  apply ByteArray.ext
  rw [← zeros_data]

theorem dw_nil (l : List UInt8) : l.dropWhile (· == 0) = [] ↔ ∀ x ∈ l, x = 0 := by
  induction l with
  | nil => simp
  | cons a l ih =>
    by_cases h : a = 0
    · subst h
      simp [ih]
    · have hb : (a == 0) = false := by simpa using h
      simp [hb, h]
/-- nothing is left of it just where all is zero -/
theorem trim_nil (l : List UInt8) : Lib.trimB l 0 = [] ↔ ∀ x ∈ l, x = 0 := by
  unfold Lib.trimB Lib.trimLeftB Lib.trimRightB
  rw [dw_nil]
  constructor
  · intro h x hx
    by_cases hz : l.reverse.dropWhile (· == 0) = []
    · exact (dw_nil _).1 hz x (List.mem_reverse.2 hx)
    · exfalso
      have hh := List.head_dropWhile_not (p := (· == 0)) hz
      have := h _ (List.mem_reverse.2 (List.head_mem hz))
      rw [this] at hh
      exact absurd hh (by decide)
  · intro h
    have : l.reverse.dropWhile (· == 0) = [] := (dw_nil _).2 (fun x hx => h x (List.mem_reverse.1 hx))
    rw [this]
    simp
end Go.Proofs.YtdelobaiicoogaaGreatDoor.L4
