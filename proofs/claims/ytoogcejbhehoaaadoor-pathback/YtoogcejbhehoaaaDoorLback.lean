/- The walk of the law PathBack. -/
import Derived.Test.YtoogcejbhehoaaaDoorAw
namespace Go.Proofs.YtoogcejbhehoaaaDoor
open Go.ChangeShapes Go.WideShapes Go.ChangeAt Go.RowKit

set_option maxHeartbeats 4000000 in
set_option maxRecDepth 10000 in
theorem back_walk (s : ByteArray) (w : World) (hT : Tb w) (hE : Er w) : Calls Tryd.prog 5 #[.string s] w fun e w' => e = .returned (.bool true) ∧ Below w.heap.size w w' := by
  have HA := hide (fun W (hW : Tb W) => awake_any W hW)
  have HT := hide hT
  have HE := hide hE
  clear hT hE
  by_cases hs : 4096 < s.size
  · have g : (4096 : Int) < (s.size : Int) := by omega
    go_enter Tryd.func5, Tryd.ntmps5
    go_wp2_with (go_at_call 8; refine (unhide HA _ (unhide HT)).mono ?_; rintro e w1 ⟨rfl, hb⟩)
    go_ret
    exact ⟨rfl, hb⟩
  have g : ¬ (4096 : Int) < (s.size : Int) := by omega
  have hs9 : s.size ≤ 900000 := by omega
  have HB0 := hide (Below.refl w.heap.size w)
  cases hR : walkR false (bs s) with
  | none =>
    have H9n := hide (fun W => (split_any s W hs9).mono fun e w' h => (hR ▸ h : Names W w' e none).of_none)
    clear hs hs9 hR
    go_enter Tryd.func5, Tryd.ntmps5
    go_wp2_with fail
    refine (unhide HA _ ((unhide HT).below (unhide HB0))).mono ?_
    rintro e w1 ⟨rfl, hb⟩
    have HB1 := hide (below_then (unhide HB0) hb)
    clear hb  HB0 
    go_wp2_with fail
    refine (unhide H9n _).mono ?_
    rintro e w2 ⟨a1, c1, rfl, hb⟩
    have HB2 := hide (below_then (unhide HB1) hb)
    clear hb  HB1 
    go_wp2
    go_ret
    exact ⟨rfl, unhide HB2⟩
  | some ns =>
    have hJ := join_walk hR
    have hL := walk_loose hR
    have H9 := hide (fun W => (split_any s W hs9).mono fun e w' h => (hR ▸ h : Names W w' e (some ns)).of_some)
    have H11 := hide (fun W (hW : Tb W) (hW' : Er W) => (loose_any s W hs9 hW hW').mono fun e w' h => (hL ▸ h : Names W w' e (some ns)).of_some)
    have hn32 : ns.length ≤ 100 := by
      rw [join_iff] at hJ
      rcases hJ with ⟨rfl, _⟩ | ⟨_, h, _⟩
      · simp
      · omega
    have hnl : ∀ n ∈ ns, n.length ≤ 4096 := by
      rw [walk_iff] at hR
      obtain ⟨r, hr, h1, h2⟩ := hR
      intro n hn
      rcases h2 with ⟨_, rfl⟩ | ⟨_, rfl, _⟩
      · cases hn
      · have h3 := cutW_size r [] n hn
        have h4 := congrArg List.length hr
        rw [bs_len, List.length_cons] at h4
        rw [List.length_nil] at h3
        omega
    have HJ := hide (show joinA (joinR ns) = .tuple #[.string s, .int .i64 0] by
      rw [hJ]
      unfold joinA
      rw [show (some (bs s)).getD [] = bs s from rfl, tx_bs]
      rfl)
    have hss : (s.toList == s.toList) = true := by simp
    have h1 := hide hn32
    have h2 := hide hnl
    clear hs hs9 hR hJ hL hn32 hnl
    go_enter Tryd.func5, Tryd.ntmps5
    go_wp2_with fail
    refine (unhide HA _ ((unhide HT).below (unhide HB0))).mono ?_
    rintro e w1 ⟨rfl, hb⟩
    have HB1 := hide (below_then (unhide HB0) hb)
    clear hb  HB0 
    go_wp2_with fail
    refine (unhide H9 _).mono ?_
    rintro e w2 ⟨a1, c1, rfl, hl, hb⟩
    have HB2 := hide (below_then (unhide HB1) hb)
    have A_2 := hide hl
    clear hb hl HB1 
    go_wp2_with fail
    refine (join_any a1 c1 ns _ (unhide A_2) (unhide h1) (unhide h2)).mono ?_
    rw [unhide HJ]
    rintro e w3 ⟨rfl, hb⟩
    have HB3 := hide (below_then (unhide HB2) hb)
    have A_3 := hide ((unhide A_2).below hb)
    clear hb HB2 A_2
    go_wp2_with fail
    refine (unhide H11 _ ((unhide HT).below (unhide HB3)) ((unhide HE).below (unhide HB3))).mono ?_
    rintro e w4 ⟨a3, c3, rfl, hl, hb⟩
    have HB4 := hide (below_then (unhide HB3) hb)
    have A_4 := hide ((unhide A_3).below hb)
    have C_4 := hide hl
    clear hb hl HB3 A_3
    go_wp2_with fail
    refine (same_self _ _ _ _ ns _ (unhide A_4) (unhide C_4)).mono ?_
    rintro e w5 ⟨rfl, hb⟩
    have HB5 := hide (below_then (unhide HB4) hb)
    have A_5 := hide ((unhide A_4).below hb)
    have C_5 := hide ((unhide C_4).below hb)
    clear hb HB4 A_4 C_4
    go_wp2
    go_ret
    exact ⟨rfl, unhide HB5⟩
end Go.Proofs.YtoogcejbhehoaaaDoor
