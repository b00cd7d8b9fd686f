/- What the Orphans do: a number's orphan's name. -/
import Derived.Test.YtoogcejbhehoaaaDoorRn
import Derived.Laws.BytesArg
import Derived.Lib.SmallJoins
namespace Go.Proofs.YtoogcejbhehoaaaDoor
open Go.ChangeShapes Go.WideShapes Go.ChangeAt Go.RowKit

theorem gTab : Tryd.prog.globalNamed tabName = some 3 := by kernel_rfl
theorem Tb.below {w w' : World} (h : Tb w) (hb : Below w.heap.size w w') : Tb w' := Joins.tab_stays gTab h hb (Nat.le_refl _)
theorem cell_below {w w' : World} {b : Nat} {v : Value} (h : w.cell? ⟨b, 0, none⟩ = some v) (hb : Below w.heap.size w w') : w'.cell? ⟨b, 0, none⟩ = some v :=
  (hb.cell (World.block_lt_of_cell? w _ h)).trans h
theorem Er.below {w w' : World} (h : Er w) (hb : Below w.heap.size w w') : Er w' := by
  obtain ⟨⟨a, b, c⟩, d, e, f⟩ := h
  exact ⟨⟨a, b, cell_below c hb⟩, d, e, cell_below f hb⟩

/-- an orphan's name, and the error -/
def orphA (n : Int) : Value := .tuple #[.string (tx ((orphE n).getD [])), .int .i64 (if (orphE n).isSome = true then 0 else 1)]
theorem orphA_ok {n : Int} (h : 1 ≤ n ∧ n ≤ 1099511627776) : orphA n = .tuple #[.string (⟨#[0]⟩ ++ tx (Lib.itoa n)), .int .i64 0] := by
  have e : orphE n = some (0 :: Lib.itoa n) := by unfold orphE; rw [if_pos h]
  have e2 : tx (0 :: Lib.itoa n) = ⟨#[0]⟩ ++ tx (Lib.itoa n) := tx_append [0] _
  unfold orphA
  rw [e, ← e2]
  rfl
theorem orphA_no {n : Int} (h : ¬ (1 ≤ n ∧ n ≤ 1099511627776)) : orphA n = .tuple #[.string ⟨#[]⟩, .int .i64 1] := by
  have e : orphE n = none := by unfold orphE; rw [if_neg h]
  unfold orphA
  rw [e]
  rfl

set_option maxHeartbeats 1000000 in
theorem orphan_any (n : Int) (w : World) (hn : -9223372036854775808 ≤ n ∧ n ≤ 9223372036854775807) (hT : Tb w) :
    Calls Tryd.prog 22 #[.int .i64 n] w fun e w' => e = .returned (orphA n) ∧ Below w.heap.size w w' := by
  have HI := hide (itoa_any n hn.1 hn.2 w hT)
  by_cases h : 1 ≤ n ∧ n ≤ 1099511627776
  · rw [orphA_ok h]
    obtain ⟨h1, h2⟩ := h
    have hcat : ¬ 9223372036854775807 < 1 + (tx (Lib.itoa n)).size := by
      have e : Lib.itoa n = Lib.decDigits n.toNat := by unfold Lib.itoa; rw [if_neg (by omega)]
      have := dec_len 12 n.toNat (by omega)
      rw [tx_size, e]
      omega
    have g1 : ¬ n < 1 := by omega
    have g2 : ¬ 1099511627776 < n := by omega
    go_enter Tryd.func22, Tryd.ntmps22
    go_wp2_with (go_at_call 35; refine (unhide HI).mono ?_; rintro e w' ⟨rfl, hb⟩)
    go_ret2
    exact ⟨rfl, hb⟩
  · rw [orphA_no h]
    by_cases g1 : n < 1
    · clear h HI
      go_enter Tryd.func22, Tryd.ntmps22
      go_wp2
      go_ret2
      exact ⟨rfl, Below.refl _ _⟩
    · have g2 : 1099511627776 < n := by omega
      clear h HI
      go_enter Tryd.func22, Tryd.ntmps22
      go_wp2
      go_ret2
      exact ⟨rfl, Below.refl _ _⟩

/-- string([]byte{b}) -/
theorem conv_one (b : Nat) (w : World) : (convert 59 9 (.slice (some ⟨w.heap.size, 0, none⟩) 1 1)).run Tryd.prog (w.alloc (.cells #[.int .u8 (48 + (b : Int))] 5)) = .ok (.string (tx [UInt8.ofNat (48 + b)])) (w.alloc (.cells #[.int .u8 (48 + (b : Int))] 5)) := by
  have h := run_convert_bytes_arg (P := Tryd.prog) (w.alloc (.cells #[.int .u8 (48 + (b : Int))] 5)) 59 5 Tryd.underlying59 Tryd.underlying5 w.heap.size 0 1 1 [48 + (b : Int)] (by simp) (fun i hi => by
    obtain rfl : i = 0 := by omega
    have := heap_alloc_new w (.cells #[.int .u8 (48 + (b : Int))] 5)
    simp only [World.cell?, Nat.add_zero, this]
    rfl) 9 Tryd.underlying9
  rw [h]
  have e : strOfNums [48 + (b : Int)] = tx [UInt8.ofNat (48 + b)] := by
    apply bs_inj
    rw [bs_tx]
    unfold bs
    rw [strOfNums_data]
    simp only [List.map_cons, List.map_nil]
    congr 1
  rw [e]

set_option maxHeartbeats 2000000 in
set_option maxRecDepth 10000 in
theorem digits_any (n : Nat) (w : World) (hn : n ≤ 1099511627776) :
    Calls Tryd.prog 36 #[.int .i64 (n : Int)] w fun e w' => e = .returned (.string (tx (Lib.decDigits n))) ∧ Below w.heap.size w w' := by
  go_enter Tryd.func36, Tryd.ntmps36
  go_wp2
  go_loopw [0, 3] (fun t v wr => ∃ (m : Nat) (S : List UInt8), t = .int .i64 (m : Int) ∧ v = .string (tx S) ∧ m ≤ n ∧ Lib.decDigits m ++ S = Lib.decDigits n ∧ Below w.heap.size w wr) (fun t _ _ => (intOf t).toNat)
  case atStart => exact ⟨n, [], rfl, rfl, Nat.le_refl _, by simp, Below.refl _ _⟩
  case round =>
    obtain ⟨m, S, rfl, rfl, hmn, he, hb⟩ := hrel
    have hlen : S.length ≤ 13 := by
      have h1 := congrArg List.length he
      have h2 := dec_len 12 n (by omega)
      rw [List.length_append] at h1
      omega
    have HE := hide he
    have HB := hide hb
    have HB2 := hide (fun o => hb.alloc (w := wr) hb.size o)
    clear he hb
    by_cases h : m < 10
    · have g : ¬ (9 : Int) < (m : Int) := by omega
      have hcv := conv_one m
      obtain ⟨D, hD⟩ : ∃ D, D = tx [UInt8.ofNat (48 + m)] := ⟨_, rfl⟩
      have hcat : ¬ 9223372036854775807 < D.size + (tx S).size := by rw [hD, tx_size, tx_size]; simp; omega
      rw [← hD] at hcv
      have g1 : (0 : Int) ≤ (m : Int) := by omega
      have g2 : (m : Int) < 10 := by omega
      have HX := hide (show D ++ tx S = tx (Lib.decDigits n) by
        rw [← unhide HE, dec_one h, tx_append, hD])
      clear hD
      go_wp2
      go_ret
      exact ⟨by rw [← unhide HX]; rfl, unhide HB2 _⟩
    · have g : (9 : Int) < (m : Int) := by omega
      obtain ⟨r, hr⟩ : ∃ r, r = m % 10 := ⟨_, rfl⟩
      obtain ⟨q, hq⟩ : ∃ q, q = m / 10 := ⟨_, rfl⟩
      have hr10 : r < 10 := by omega
      have hcv := conv_one r
      obtain ⟨D, hD⟩ : ∃ D, D = tx [UInt8.ofNat (48 + r)] := ⟨_, rfl⟩
      have hcat : ¬ 9223372036854775807 < D.size + (tx S).size := by rw [hD, tx_size, tx_size]; simp; omega
      rw [← hD] at hcv
      have HD := hide hD
      clear hD
      have g1 : (0 : Int) ≤ (r : Int) := by omega
      have g2 : (r : Int) < 10 := by omega
      have e1 : (m : Int).tmod 10 = (r : Int) := by rw [Int.tmod_eq_emod_of_nonneg (by omega)]; omega
      have e2 : (m : Int).tdiv 10 = (q : Int) := by rw [Int.tdiv_eq_ediv_of_nonneg (by omega)]; omega
      have e3 : (m : Int) % 10 = (r : Int) := by omega
      have e4 : (m : Int) / 10 = (q : Int) := by omega
      have HX := hide (show Lib.decDigits q ++ (UInt8.ofNat (48 + r) :: S) = Lib.decDigits n by
        rw [← unhide HE, dec_snoc h, ← hr, ← hq, List.append_assoc]
        rfl)
      have HQ := hide (show q ≤ n ∧ q < m by omega)
      clear hr hq HE
      go_wp2
      go_roundw
      case rel => exact ⟨q, UInt8.ofNat (48 + r) :: S, by go_num, by rw [unhide HD, ← tx_append]; rfl, (unhide HQ).1, unhide HX, unhide HB2 _⟩
      case measure =>
        have := (unhide HQ).2
        simp [intOf]
        omega
set_option maxHeartbeats 1000000 in
theorem refOrphan_any (n : Int) (w : World) (hn : -9223372036854775808 ≤ n ∧ n ≤ 9223372036854775807) :
    Calls Tryd.prog 23 #[.int .i64 n] w fun e w' => e = .returned (orphA n) ∧ Below w.heap.size w w' := by
  by_cases h : 1 ≤ n ∧ n ≤ 1099511627776
  · rw [orphA_ok h]
    obtain ⟨h1, h2⟩ := h
    obtain ⟨m, rfl⟩ := Int.eq_ofNat_of_zero_le (show 0 ≤ n by omega)
    have HI := hide (digits_any m w (by omega))
    have he : Lib.itoa (m : Int) = Lib.decDigits m := by unfold Lib.itoa; rw [if_neg (by omega)]; simp
    rw [he]
    clear he
    have hcat : ¬ 9223372036854775807 < 1 + (tx (Lib.decDigits m)).size := by
      have := dec_len 12 m (by omega)
      rw [tx_size]
      omega
    have g1 : ¬ (m : Int) < 1 := by omega
    have g2 : ¬ 1099511627776 < (m : Int) := by omega
    go_enter Tryd.func23, Tryd.ntmps23
    go_wp2_with (go_at_call 36; refine (unhide HI).mono ?_; rintro e w' ⟨rfl, hb⟩)
    go_ret2
    exact ⟨rfl, hb⟩
  · rw [orphA_no h]
    by_cases g1 : n < 1
    · clear h
      go_enter Tryd.func23, Tryd.ntmps23
      go_wp2
      go_ret2
      exact ⟨rfl, Below.refl _ _⟩
    · have g2 : 1099511627776 < n := by omega
      clear h
      go_enter Tryd.func23, Tryd.ntmps23
      go_wp2
      go_ret2
      exact ⟨rfl, Below.refl _ _⟩
end Go.Proofs.YtoogcejbhehoaaaDoor
