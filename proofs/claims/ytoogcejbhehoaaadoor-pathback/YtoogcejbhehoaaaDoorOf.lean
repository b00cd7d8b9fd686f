/- What the OrphanOfs do: whose name it is. -/
import Derived.Test.YtoogcejbhehoaaaDoorOr
namespace Go.Proofs.YtoogcejbhehoaaaDoor
open Go.ChangeShapes Go.WideShapes Go.ChangeAt Go.RowKit

/-- whose name it is, and whether it is one -/
def ofA (l : List UInt8) : Value := .tuple #[.int .i64 (((orphR l).getD 0 : Nat) : Int), .bool (orphR l).isSome]
theorem trim0 : ∀ l : List UInt8, Lib.trimPrefix l [0] = cut0 l
  | [] => rfl
  | c :: r => by
    by_cases h : c = 0
    · subst h
      simp [Lib.trimPrefix, Lib.hasPrefix, cut0]
    · have h' : ¬ 0 = c := fun e => h e.symm
      simp [Lib.trimPrefix, Lib.hasPrefix, cut0, h, h']

theorem cut0_len : ∀ l : List UInt8, (cut0 l).length ≤ l.length
  | [] => Nat.le_refl _
  | c :: r => by
    by_cases h : c = 0
    · simp [cut0, h]
    · simp [cut0, h]
theorem orphE_size {n : Int} {l : List UInt8} (h : orphE n = some l) : l.length ≤ 14 := by
  unfold orphE at h
  split at h
  · injection h with h
    subst h
    have e : Lib.itoa n = Lib.decDigits n.toNat := by unfold Lib.itoa; rw [if_neg (by omega)]
    have := dec_len 12 n.toNat (by omega)
    rw [e]
    simp
    omega
  · cases h

set_option maxHeartbeats 2000000 in
set_option maxRecDepth 10000 in
theorem orphanOf_any (s : ByteArray) (w : World) (hs : s.size ≤ 1000000) (hT : Tb w) (hE : Er w) :
    Calls Tryd.prog 24 #[.string s] w fun e w' => e = .returned (ofA (bs s)) ∧ Below w.heap.size w w' := by
  obtain ⟨y, n⟩ := orph_way (bs s)
  have hc0 : (tx (cut0 (bs s))).size ≤ 1000000 := by
    rw [tx_size]
    have := cut0_len (bs s)
    rw [bs_len] at this
    omega
  have H1 := hide (trimPrefix_any s w)
  have H2 := hide (atoi_any (tx (cut0 (bs s))) hc0 w hE)
  have hbd := atoiN_bounds (cut0 (bs s))
  have H3 := hide (fun W (hW : Below w.heap.size w W) => orphan_any (atoiN (cut0 (bs s))) W hbd (hT.below hW))
  rw [trim0] at H1
  rw [bs_tx] at H2
  clear hT hE hc0 hbd
  cases ho : orphR (bs s) with
  | some m =>
    obtain ⟨y1, y2⟩ := y m ho
    have hA : ofA (bs s) = .tuple #[.int .i64 (m : Int), .bool true] := by unfold ofA; rw [ho]; rfl
    have hO : orphA (m : Int) = .tuple #[.string s, .int .i64 0] := by
      unfold orphA
      rw [y2]
      simp [tx_bs]
    rw [y1] at H2 H3
    rw [hO] at H3
    rw [hA]
    have hss : (s.toList == s.toList) = true := by simp
    clear y n ho y1 y2 hA hO
    go_enter Tryd.func24, Tryd.ntmps24
    go_wp2_with (first
      | (go_at_call 38; refine (unhide H1).mono ?_; rintro e w' ⟨rfl, rfl⟩)
      | (go_at_call 37; refine (unhide H2).mono ?_; rintro e w1 ⟨⟨er, rfl, _⟩, hb1⟩; have hb1 := hide hb1)
      | (go_at_call 22; refine (unhide H3 _ (unhide hb1)).mono ?_; rintro e w2 ⟨rfl, hb2⟩; have hb2 := hide (below_then (unhide hb1) hb2)))
    go_ret2
    exact ⟨rfl, unhide hb2⟩
  | none =>
    have hA : ofA (bs s) = .tuple #[.int .i64 0, .bool false] := by unfold ofA; rw [ho]; rfl
    have hn := n ho
    rw [hA]
    generalize atoiN (cut0 (bs s)) = k at *
    cases hk : orphE k with
    | none =>
      have hO : orphA k = .tuple #[.string ⟨#[]⟩, .int .i64 1] := by unfold orphA; rw [hk]; rfl
      rw [hO] at H3
      clear y n ho hn hA hO hk
      go_enter Tryd.func24, Tryd.ntmps24
      go_wp2_with (first
        | (go_at_call 38; refine (unhide H1).mono ?_; rintro e w' ⟨rfl, rfl⟩)
        | (go_at_call 37; refine (unhide H2).mono ?_; rintro e w1 ⟨⟨er, rfl, _⟩, hb1⟩; have hb1 := hide hb1)
        | (go_at_call 22; refine (unhide H3 _ (unhide hb1)).mono ?_; rintro e w2 ⟨rfl, hb2⟩; have hb2 := hide (below_then (unhide hb1) hb2)))
      go_ret2
      exact ⟨rfl, unhide hb2⟩
    | some l =>
      have hO : orphA k = .tuple #[.string (tx l), .int .i64 0] := by unfold orphA; rw [hk]; rfl
      rw [hO] at H3
      have hne : ¬ tx l = s := by
        intro h
        rw [hk] at hn
        exact hn (by rw [← h, bs_tx])
      have hq := str_ne hne
      generalize tx l = L at *
      clear y n ho hn hA hO hk hne
      go_enter Tryd.func24, Tryd.ntmps24
      go_wp2_with (first
        | (go_at_call 38; refine (unhide H1).mono ?_; rintro e w' ⟨rfl, rfl⟩)
        | (go_at_call 37; refine (unhide H2).mono ?_; rintro e w1 ⟨⟨er, rfl, _⟩, hb1⟩; have hb1 := hide hb1)
        | (go_at_call 22; refine (unhide H3 _ (unhide hb1)).mono ?_; rintro e w2 ⟨rfl, hb2⟩; have hb2 := hide (below_then (unhide hb1) hb2)))
      go_ret2
      exact ⟨rfl, unhide hb2⟩

set_option maxHeartbeats 2000000 in
theorem loosePlace_any (n : Nat) (s : ByteArray) (w : World) (hs : s.size ≤ 1000000) (hT : Tb w) (hE : Er w) :
    Calls Tryd.prog 29 #[.int .i64 n, .string s] w fun e w' => e = .returned (.bool (fitB true n (bs s))) ∧ Below w.heap.size w w' := by
  have H1 := hide (orphanOf_any s w hs hT hE)
  have H2 := hide (fun W => name_any s W hs)
  unfold ofA at H1
  unfold fitB
  generalize nameB (bs s) = b at *
  generalize (orphR (bs s)).isSome = o at *
  generalize ((orphR (bs s)).getD 0) = k at *
  clear hT hE
  cases b with
  | true =>
    go_enter Tryd.func29, Tryd.ntmps29
    go_wp2_with (first
      | (go_at_call 24; refine (unhide H1).mono ?_; rintro e w1 ⟨rfl, hb1⟩; have hb1 := hide hb1)
      | (go_at_call 15; refine (unhide H2 _).mono ?_; rintro e w2 ⟨rfl, hb2⟩; have hb2 := hide (below_then (unhide hb1) hb2)))
    go_ret
    exact ⟨rfl, unhide hb2⟩
  | false =>
    by_cases hn : n = 0
    · subst hn
      go_enter Tryd.func29, Tryd.ntmps29
      go_wp2_with (first
        | (go_at_call 24; refine (unhide H1).mono ?_; rintro e w1 ⟨rfl, hb1⟩; have hb1 := hide hb1)
        | (go_at_call 15; refine (unhide H2 _).mono ?_; rintro e w2 ⟨rfl, hb2⟩; have hb2 := hide (below_then (unhide hb1) hb2)))
      go_ret
      exact ⟨by simp, unhide hb2⟩
    · have g : ((n : Int) == 0) = false := beq_eq_false_iff_ne.2 (by omega)
      have e : (false || (true && (decide (n = 0) && o))) = false := by simp [hn]
      rw [e]
      clear e hn
      go_enter Tryd.func29, Tryd.ntmps29
      go_wp2_with (first
        | (go_at_call 24; refine (unhide H1).mono ?_; rintro e w1 ⟨rfl, hb1⟩; have hb1 := hide hb1)
        | (go_at_call 15; refine (unhide H2 _).mono ?_; rintro e w2 ⟨rfl, hb2⟩; have hb2 := hide (below_then (unhide hb1) hb2)))
      go_ret
      exact ⟨rfl, unhide hb2⟩
end Go.Proofs.YtoogcejbhehoaaaDoor
