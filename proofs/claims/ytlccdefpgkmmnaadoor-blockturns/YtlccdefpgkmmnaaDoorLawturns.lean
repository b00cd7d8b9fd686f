/- The walk of the law BlockTurns. -/
import Derived.Test.YtlccdefpgkmmnaaDoorAwake
import Derived.Lib.ConvBytes
namespace Go.Proofs.YtlccdefpgkmmnaaDoor
open Go.ChangeShapes Go.WideShapes Go.ChangeAt Go.RowKit

theorem and1_shift (b k : Nat) (hb : b < 4294967296) : bits .and .u32 ((b : Int) / 2 ^ k) 1 = ((b / 2 ^ k % 2 : Nat) : Int) := by
  have h := and1 (b / 2 ^ k) (Nat.lt_of_le_of_lt (Nat.div_le_self _ _) hb)
  have e : ((b / 2 ^ k : Nat) : Int) = (b : Int) / 2 ^ k := by simp
  rw [e] at h
  exact h
theorem bit_set (b k : Nat) (h : b / 2 ^ k % 2 = 1) : b % 2 ^ (k + 1) = (b % 2 ^ k) ^^^ 2 ^ k := by
  apply Nat.eq_of_testBit_eq
  intro i
  rw [Nat.testBit_xor, Nat.testBit_mod_two_pow, Nat.testBit_mod_two_pow, Nat.testBit_two_pow]
  by_cases he : k = i
  · subst he
    have : b.testBit k = true := by rw [Nat.testBit_eq_decide_div_mod_eq]; simp [h]
    simp [this]
  · by_cases hi : i < k
    · simp [hi, he, Nat.lt_succ_of_lt hi]
    · simp [hi, he, show ¬ i < k + 1 by omega]
theorem bit_unset (b k : Nat) (h : ¬ b / 2 ^ k % 2 = 1) : b % 2 ^ (k + 1) = b % 2 ^ k := by
  apply Nat.eq_of_testBit_eq
  intro i
  rw [Nat.testBit_mod_two_pow, Nat.testBit_mod_two_pow]
  by_cases he : k = i
  · subst he
    have : b.testBit k = false := by rw [Nat.testBit_eq_decide_div_mod_eq]; simp [h]
    simp [this]
  · by_cases hi : i < k
    · simp [hi, Nat.lt_succ_of_lt hi]
    · simp [hi, show ¬ i < k + 1 by omega]

/-- a bit is turned -/
theorem turn_step {l t : List Nat} {b k p : Nat} (h : b / 2 ^ k % 2 = 1) (hj : (p + k) / 8 < t.length) (hm : Crc.msg t = Crc.msg l ^^^ ((b % 2 ^ k) * 2 ^ p)) :
    Crc.msg (t.set ((p + k) / 8) (t.getD ((p + k) / 8) 0 ^^^ 2 ^ ((p + k) % 8))) = Crc.msg l ^^^ ((b % 2 ^ (k + 1)) * 2 ^ p) := by
  have e : t.getD ((p + k) / 8) 0 = t[(p + k) / 8] := by rw [List.getD_eq_getElem?_getD, List.getElem?_eq_getElem hj]; rfl
  rw [e, Crc.msg_set t _ _ hj, hm, bit_set b k h, Crc.pow_xor, Nat.xor_assoc, ← Nat.pow_add, ← Nat.pow_add]
  have e2 : (p + k) % 8 + 8 * ((p + k) / 8) = k + p := by omega
  rw [e2]

/-- a row of bytes that may be written -/
def RowIs (w : World) (g : Nat) (l : List Nat) : Prop := ∃ c e fr, w.heap[g]? = some (.cells c e fr) ∧ (∀ i, i < l.length → c[i]? = some (.int .u8 ((l.getD i 0 : Nat) : Int))) ∧ l.length ≤ fr.1
theorem RowIs.lt {w : World} {g : Nat} {l : List Nat} (h : RowIs w g l) : g < w.heap.size := by
  obtain ⟨c, e, fr, h1, _⟩ := h
  exact (Array.getElem?_eq_some_iff.1 h1).1
theorem RowIs.below {w w' : World} {g : Nat} {l : List Nat} (h : RowIs w g l) (hb : Below w.heap.size w w') : RowIs w' g l := by
  have hl := h.lt
  obtain ⟨c, e, fr, h1, h2⟩ := h
  exact ⟨c, e, fr, (hb.block _ hl).trans h1, h2⟩
theorem RowIs.at {w : World} {g : Nat} {l : List Nat} (h : RowIs w g l) (k : Nat) (hk : k < l.length) : w.cell? ⟨g, k, none⟩ = some (.int .u8 ((l.getD k 0 : Nat) : Int)) ∧ w.frozen? ⟨g, k, none⟩ = false := by
  obtain ⟨c, e, fr, h1, h2, h3⟩ := h
  refine ⟨?_, ?_⟩
  · simp only [World.cell?, h1]
    exact h2 k hk
  · simp only [World.frozen?, h1]
    simp
    omega
theorem RowIs.set {w : World} {g : Nat} {l : List Nat} (h : RowIs w g l) (k v : Nat) : RowIs (w.setCell ⟨g, k, none⟩ (.int .u8 (v : Int))) g (l.set k v) := by
  obtain ⟨c, e, fr, h1, h2, h3⟩ := h
  refine ⟨c.setIfInBounds k (.int .u8 (v : Int)), e, fr, ?_, ?_, by rw [List.length_set]; exact h3⟩
  · simp [World.setCell, Array.getElem?_modify, h1]
  · intro i hi
    rw [List.length_set] at hi
    have hc := h2 i hi
    have hci : i < c.size := (Array.getElem?_eq_some_iff.1 hc).1
    by_cases e : k = i
    · subst e
      simp [hi, hci]
    · rw [Array.getElem?_setIfInBounds_ne e, hc]
      simp [List.getD_eq_getElem?_getD, List.getElem?_set_ne e]
theorem RowIs.conv {w : World} {g : Nat} {l : List Nat} (h : RowIs w g l) (n cap : Nat) (hn : l.length = n) : (convert 35 9 (.slice (some ⟨g, 0, none⟩) n cap)).run Tryd.prog w = .ok (.string (strOf l)) w := by
  subst hn
  exact conv_row g cap l w (fun i hi => (h.at i hi).1)
theorem bytes_of (S : ByteArray) (w : World) : ∃ w' cap, (convert 9 35 (.string S)).run Tryd.prog w = .ok (.slice (some ⟨w.heap.size, 0, none⟩) S.size cap) w' ∧ RowIs w' w.heap.size (bn S) ∧ Below w.heap.size w w' := by
  refine ⟨Lib.bytesWorld w 5 S, _, Lib.run_convert_string_bytes w 9 35 5 S Tryd.underlying9 Tryd.underlying35 Tryd.underlying5, ?_, ?_⟩
  · refine ⟨_, _, _, Lib.bytesWorld_at_new w 5 S, ?_, ?_⟩
    · intro i hi
      rw [bn_length] at hi
      have hs : i < S.data.size := hi
      unfold Lib.bytesCells
      rw [Array.getElem?_append_left (by simpa using hs), Array.getElem?_map, Array.getElem?_eq_getElem hs, List.getD_eq_getElem?_getD, bn_at S i hi]
      rfl
    · rw [bn_length]
      show S.size ≤ (Lib.bytesCells w 5 S).size
      unfold Lib.bytesCells
      rw [Array.size_append, Array.size_map]
      exact Nat.le_add_right _ _
  · exact ⟨rfl, rfl, rfl, by rw [Lib.bytesWorld_size]; omega, fun j hj => Lib.bytesWorld_at_old w 5 S j hj⟩

theorem turn_rel {W wr : World} {g1 k p b u : Nat} {l t : List Nat} (h : b / 2 ^ k % 2 = 1) (hj : (p + k) / 8 < t.length) (hm : Crc.msg t = Crc.msg l ^^^ ((b % 2 ^ k) * 2 ^ p)) (ht : t.length = 1024) (htb : ∀ b ∈ t, b < 256)
    (hu : t.getD ((p + k) / 8) 0 = u) (r1 : RowIs wr g1 t) (rb : Below W.heap.size W wr) (hg : W.heap.size ≤ g1) :
    ∃ t' : List Nat, t'.length = 1024 ∧ (∀ b ∈ t', b < 256) ∧ Crc.msg t' = Crc.msg l ^^^ ((b % 2 ^ (k + 1)) * 2 ^ p) ∧
      RowIs (wr.setCell ⟨g1, (p + k) / 8, none⟩ (.int .u8 (bits .xor .u8 (u : Int) (2 ^ ((p + k) % 8) % 256)))).drew g1 t' ∧
      Below W.heap.size W (wr.setCell ⟨g1, (p + k) / 8, none⟩ (.int .u8 (bits .xor .u8 (u : Int) (2 ^ ((p + k) % 8) % 256)))).drew := by
  have hr : 2 ^ ((p + k) % 8) < 256 := by
    have : 2 ^ ((p + k) % 8) < 2 ^ 8 := Nat.pow_lt_pow_right (by decide) (Nat.mod_lt _ (by decide))
    simpa using this
  have hu8 : u < 256 := hu ▸ getD_lt htb _
  have e : bits .xor .u8 (u : Int) (2 ^ ((p + k) % 8) % 256) = ((u ^^^ 2 ^ ((p + k) % 8) : Nat) : Int) := by
    have h1 := u8_xor_nat u (2 ^ ((p + k) % 8)) hu8 hr
    have h2 : ((2 ^ ((p + k) % 8) : Nat) : Int) = 2 ^ ((p + k) % 8) % 256 := by
      have : ((2 ^ ((p + k) % 8) : Nat) : Int) = (2 : Int) ^ ((p + k) % 8) := by simp
      rw [← this]
      generalize 2 ^ ((p + k) % 8) = n at *
      omega
    rw [h2] at h1
    exact h1
  rw [e]
  refine ⟨t.set ((p + k) / 8) (u ^^^ 2 ^ ((p + k) % 8)), by rw [List.length_set]; exact ht, ?_, ?_, ?_, ?_⟩
  · intro x hx
    rcases List.mem_or_eq_of_mem_set hx with h | h
    · exact htb x h
    · subst h
      have : u ^^^ 2 ^ ((p + k) % 8) < 2 ^ 8 := Nat.xor_lt_two_pow (by omega) (by omega)
      simpa using this
  · have := turn_step h hj hm
    rw [hu] at this
    exact this
  · exact (r1.set _ _).below (Below.refl _ _).drew
  · exact (below_set rb hg).drew

set_option maxRecDepth 10000 in
set_option maxHeartbeats 1000000 in
theorem turns_err (K G : Int) (P : ByteArray) (p b : Int) (w : World) (hT : Tab w) (s : ByteArray) (E : Nat) (w1 : wrapR K G P = (s, E)) (hE : E ≠ 0) :
    Calls Tryd.prog 6 #[.agg #[.int .i64 K, .int .i64 G, .string P], .int .i64 p, .int .u32 b] w fun e w' => e = .returned (.bool true) ∧ Below w.heap.size w w' := by
  have hX := Box.new w (.int .i64 K) (.int .i64 G) (.string P)
  have h1 := fun w' (h' : Tab w') => wrap_any K G P w' h'
  rw [w1] at h1
  have H8 := hide (awake_any _ (hT.below hX.1))
  have H1 := hide h1
  have HT := hide hT
  have HX := hide hX
  clear h1 hT hX w1
  have e1 : ((E : Int) == 0) = false := beq_eq_false_iff_ne.2 (by omega)
  have e2 : ((E : Int) != 0) = true := bne_iff_ne.2 (by omega)
  clear hE
  go_enter Tryd.func6, Tryd.ntmps6
  go_wp2_with (first
    | (go_at_call 8; refine (unhide H8).mono ?_; rintro e w1 ⟨rfl, hb1⟩; have X1 := hide ((unhide HX).then hb1); obtain ⟨b1, c0, c1, c2⟩ := unhide X1)
    | (go_at_call 9; refine (unhide H1 _ ((unhide HT).below b1)).mono ?_; rintro e w2 ⟨rfl, hb2⟩; have b2 := below_then b1 hb2; clear b1 c0 c1 c2 hb2 X1))
  go_ret
  exact ⟨rfl, b2⟩

set_option maxRecDepth 10000 in
set_option maxHeartbeats 1000000 in
theorem turns_none (K G : Int) (P : ByteArray) (p b : Int) (w : World) (hT : Tab w) (s : ByteArray) (E : Nat) (w1 : wrapR K G P = (s, E)) (hE : E = 0) (hb : b = 0) :
    Calls Tryd.prog 6 #[.agg #[.int .i64 K, .int .i64 G, .string P], .int .i64 p, .int .u32 b] w fun e w' => e = .returned (.bool true) ∧ Below w.heap.size w w' := by
  have hX := Box.new w (.int .i64 K) (.int .i64 G) (.string P)
  have h1 := fun w' (h' : Tab w') => wrap_any K G P w' h'
  rw [w1] at h1
  have H8 := hide (awake_any _ (hT.below hX.1))
  have H1 := hide h1
  have HT := hide hT
  have HX := hide hX
  clear h1 hT hX w1
  subst hE
  subst hb
  go_enter Tryd.func6, Tryd.ntmps6
  go_wp2_with (first
    | (go_at_call 8; refine (unhide H8).mono ?_; rintro e w1 ⟨rfl, hb1⟩; have X1 := hide ((unhide HX).then hb1); obtain ⟨b1, c0, c1, c2⟩ := unhide X1)
    | (go_at_call 9; refine (unhide H1 _ ((unhide HT).below b1)).mono ?_; rintro e w2 ⟨rfl, hb2⟩; have b2 := below_then b1 hb2; clear b1 c0 c1 c2 hb2 X1))
  go_ret
  exact ⟨rfl, b2⟩

set_option maxRecDepth 10000 in
set_option maxHeartbeats 1000000 in
theorem turns_low (K G : Int) (P : ByteArray) (p b : Int) (w : World) (hT : Tab w) (s : ByteArray) (E : Nat) (w1 : wrapR K G P = (s, E)) (hE : E = 0) (hb : b ≠ 0) (hl : p < 0) :
    Calls Tryd.prog 6 #[.agg #[.int .i64 K, .int .i64 G, .string P], .int .i64 p, .int .u32 b] w fun e w' => e = .returned (.bool true) ∧ Below w.heap.size w w' := by
  have hX := Box.new w (.int .i64 K) (.int .i64 G) (.string P)
  have h1 := fun w' (h' : Tab w') => wrap_any K G P w' h'
  rw [w1] at h1
  have H8 := hide (awake_any _ (hT.below hX.1))
  have H1 := hide h1
  have HT := hide hT
  have HX := hide hX
  clear h1 hT hX w1
  subst hE
  have k1 : (b == 0) = false := beq_eq_false_iff_ne.2 hb
  clear hb
  go_enter Tryd.func6, Tryd.ntmps6
  go_wp2_with (first
    | (go_at_call 8; refine (unhide H8).mono ?_; rintro e w1 ⟨rfl, hb1⟩; have X1 := hide ((unhide HX).then hb1); obtain ⟨b1, c0, c1, c2⟩ := unhide X1)
    | (go_at_call 9; refine (unhide H1 _ ((unhide HT).below b1)).mono ?_; rintro e w2 ⟨rfl, hb2⟩; have b2 := below_then b1 hb2; clear b1 c0 c1 c2 hb2 X1))
  go_ret
  exact ⟨rfl, b2⟩

set_option maxRecDepth 10000 in
set_option maxHeartbeats 1000000 in
theorem turns_high (K G : Int) (P : ByteArray) (p b : Int) (w : World) (hT : Tab w) (s : ByteArray) (E : Nat) (w1 : wrapR K G P = (s, E)) (hE : E = 0) (hb : b ≠ 0) (hl : ¬ p < 0) (hh : 8160 < p) :
    Calls Tryd.prog 6 #[.agg #[.int .i64 K, .int .i64 G, .string P], .int .i64 p, .int .u32 b] w fun e w' => e = .returned (.bool true) ∧ Below w.heap.size w w' := by
  have hX := Box.new w (.int .i64 K) (.int .i64 G) (.string P)
  have h1 := fun w' (h' : Tab w') => wrap_any K G P w' h'
  rw [w1] at h1
  have H8 := hide (awake_any _ (hT.below hX.1))
  have H1 := hide h1
  have HT := hide hT
  have HX := hide hX
  clear h1 hT hX w1
  subst hE
  have k1 : (b == 0) = false := beq_eq_false_iff_ne.2 hb
  clear hb
  go_enter Tryd.func6, Tryd.ntmps6
  go_wp2_with (first
    | (go_at_call 8; refine (unhide H8).mono ?_; rintro e w1 ⟨rfl, hb1⟩; have X1 := hide ((unhide HX).then hb1); obtain ⟨b1, c0, c1, c2⟩ := unhide X1)
    | (go_at_call 9; refine (unhide H1 _ ((unhide HT).below b1)).mono ?_; rintro e w2 ⟨rfl, hb2⟩; have b2 := below_then b1 hb2; clear b1 c0 c1 c2 hb2 X1))
  go_ret
  exact ⟨rfl, b2⟩

set_option maxRecDepth 10000 in
set_option maxHeartbeats 2000000 in
theorem turns_in (K G : Int) (P : ByteArray) (p b : Nat) (W : World) (hT : Tab W) (S : ByteArray) (w1 : wrapR K G P = (S, 0)) (hz : S.size = 1024) (hb : b < 4294967296) (hb0 : b ≠ 0) (hp : p ≤ 8160)
    (hturn : ∀ t : List Nat, t.length = 1024 → (∀ b ∈ t, b < 256) → Crc.msg t = Crc.msg (bn S) ^^^ (b * 2 ^ p) → openR (strOf t) = (0, 0, ⟨#[]⟩, 40)) :
    Calls Tryd.prog 6 #[.agg #[.int .i64 K, .int .i64 G, .string P], .int .i64 (p : Int), .int .u32 (b : Int)] W fun e w' => e = .returned (.bool true) ∧ Below W.heap.size W w' := by
  have hX := Box.new W (.int .i64 K) (.int .i64 G) (.string P)
  have h1 := fun w' (h' : Tab w') => wrap_any K G P w' h'
  rw [w1] at h1
  have H8 := hide (awake_any _ (hT.below hX.1))
  have H1 := hide h1
  have HT := hide hT
  have HX := hide hX
  have HR := hide hturn
  have hbz : ((b : Int) == 0) = false := beq_eq_false_iff_ne.2 (by omega)
  have hpz : (p : Int) ≤ 8160 := by omega
  have hlen : (bn S).length = 1024 := by rw [bn_length]; exact hz
  have HLT := hide (bn_lt S)
  have HLEN := hide hlen
  clear h1 hT hX w1 hb0 hturn hlen
  go_enter Tryd.func6, Tryd.ntmps6
  go_wp2_with (first
    | (go_at_call 8; refine (unhide H8).mono ?_; rintro e w1 ⟨rfl, hb1⟩; have X1 := hide ((unhide HX).then hb1); obtain ⟨b1, c0, c1, c2⟩ := unhide X1)
    | (go_at_call 9; refine (unhide H1 _ ((unhide HT).below b1)).mono ?_; rintro e w2 ⟨rfl, hb2⟩; have b2 := below_then b1 hb2; clear b1 c0 c1 c2 hb2 X1; obtain ⟨w3, cap, hcv, hrow, hb3⟩ := bytes_of S w2; rw [hz] at hcv; have R0 := hide hrow; have B0 := hide (below_then b2 hb3); have HG := hide b2.size; clear hrow hb3 b2))
  clear hcv
  go_loopw [10] (fun i wr => ∃ k : Nat, k ≤ 32 ∧ i = .int .i64 k ∧ ∃ t : List Nat, t.length = 1024 ∧ (∀ b ∈ t, b < 256) ∧ Crc.msg t = Crc.msg (bn S) ^^^ ((b % 2 ^ k) * 2 ^ p) ∧ RowIs wr w2.heap.size t ∧ Below W.heap.size W wr) (fun i _ => 32 - (intOf i).toNat)
  case atStart => exact ⟨0, Nat.zero_le _, rfl, bn S, unhide HLEN, unhide HLT, by simp [Nat.mod_one], unhide R0, unhide B0⟩
  case round =>
    clear R0 B0
    obtain ⟨k, hk, rfl, t, ht, htb, hmsg, r1, rb⟩ := hrel
    have HM := hide hmsg
    have R1 := hide r1
    have RB := hide rb
    have HTB := hide htb
    clear hmsg r1 rb htb
    by_cases hlt : k < 32
    · have hand := and1_shift b k hb
      by_cases hbit : b / 2 ^ k % 2 = 1
      · rw [hbit] at hand
        have hand' : bits .and .u32 ((b : Int) / 2 ^ k) 1 = 1 := hand
        clear hand
        have HBIT := hide hbit
        clear hbit
        have hj : (p + k) / 8 < t.length := by omega
        obtain ⟨q1, f1⟩ := (unhide R1).at ((p + k) / 8) hj
        have hu := getD_lt (unhide HTB) ((p + k) / 8)
        generalize hu' : t.getD ((p + k) / 8) 0 = u at *
        have HU := hide hu'
        clear hu'
        go_wp2
        go_region
        all_goals go_wp2
        go_roundw
        case rel =>
          refine ⟨k + 1, by omega, by go_num, ?_⟩
          exact turn_rel (unhide HBIT) hj (unhide HM) ht (unhide HTB) (unhide HU) (unhide R1) (unhide RB) (unhide HG)
        case measure => simp [intOf]; omega
      · have h0' : b / 2 ^ k % 2 = 0 := by omega
        rw [h0'] at hand
        have hand' : bits .and .u32 ((b : Int) / 2 ^ k) 1 = 0 := hand
        clear hand
        have HM' := hide (unhide HM)
        rw [← bit_unset b k hbit] at HM'
        clear hbit h0' HM
        go_wp2
        go_roundw
        case rel => exact ⟨k + 1, by omega, by go_num, t, ht, unhide HTB, unhide HM', unhide R1, unhide RB⟩
        case measure => simp [intOf]; omega
    · have hk32 : k = 32 := by omega
      subst hk32
      have hm : Crc.msg t = Crc.msg (bn S) ^^^ (b * 2 ^ p) := by
        have := unhide HM
        rw [Nat.mod_eq_of_lt (show b < 2 ^ 32 by omega)] at this
        exact this
      have hcs := (unhide R1).conv 1024 cap ht
      have h2 := fun w' (h' : Tab w') => open_any (strOf t) w' h'
      rw [unhide HR t ht (unhide HTB) hm] at h2
      have H2 := hide h2
      have HTw := hide ((unhide HT).below (unhide RB))
      clear hm h2 HM R1 HR
      go_wp2_with (go_at_call 11; refine (unhide H2 _ (unhide HTw)).mono ?_; unfold opened; rintro e w5 ⟨rfl, hb5⟩; have B5 := hide (below_then (unhide RB) hb5); clear hb5)
      go_ret
      exact ⟨rfl, (unhide B5).alloc (unhide B5).size _⟩

theorem turns_any (K G : Int) (P : ByteArray) (p b : Int) (w : World) (hT : Tab w) (hb : 0 ≤ b ∧ b < 4294967296) :
    Calls Tryd.prog 6 #[.agg #[.int .i64 K, .int .i64 G, .string P], .int .i64 p, .int .u32 b] w fun e w' => e = .returned (.bool true) ∧ Below w.heap.size w w' := by
  rcases wrapR_cases K G P with ⟨k, g, rfl, rfl, hk, hg, hps, hw⟩ | ⟨e, he, hw⟩
  · by_cases h0 : b = 0
    · exact turns_none _ _ P p b w hT _ _ hw rfl h0
    · by_cases h1 : p < 0
      · exact turns_low _ _ P p b w hT _ _ hw rfl h0 h1
      · by_cases h2 : 8160 < p
        · exact turns_high _ _ P p b w hT _ _ hw rfl h0 h1 h2
        · obtain ⟨p', rfl⟩ := Int.eq_ofNat_of_zero_le (show 0 ≤ p by omega)
          obtain ⟨b', rfl⟩ := Int.eq_ofNat_of_zero_le hb.1
          refine turns_in _ _ P p' b' w hT _ hw (size_sector hps) (by omega) (by omega) (by omega) ?_
          intro t ht htb hm
          rw [bn_sector hk hps] at hm
          exact turned_out hk hps (by rw [strOf_size]; exact ht) b' p' (by omega) (by omega) (by omega) (by rw [bn_strOf t htb]; exact hm)
  · exact turns_err _ _ P p b w hT _ _ hw (by omega)
end Go.Proofs.YtlccdefpgkmmnaaDoor
