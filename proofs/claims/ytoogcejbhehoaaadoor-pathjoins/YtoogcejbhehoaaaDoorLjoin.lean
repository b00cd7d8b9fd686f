/- The walk of the law PathJoins. -/
import Derived.Test.YtoogcejbhehoaaaDoorAp
namespace Go.Proofs.YtoogcejbhehoaaaDoor
open Go.ChangeShapes Go.WideShapes Go.ChangeAt Go.RowKit

set_option maxHeartbeats 4000000 in
set_option maxRecDepth 10000 in
theorem joins_walk (a : Option Addr) (cap : Nat) (ns : List (List UInt8)) (w : World) (hl : Ls w a ns) (hsz : ∀ i, (ns.getD i []).length ≤ 9223372036854775807) (hT : Tb w) : Calls Tryd.prog 4 #[.slice a ns.length cap] w fun e w' => e = .returned (.bool true) ∧ Below w.heap.size w w' := by
  have HA := hide (fun W (hW : Tb W) => awake_any W hW)
  have HT := hide hT
  have hn := hl.1
  have HL := hide hl
  clear hT hl
  by_cases hs : 100 < ns.length
  · have g : (100 : Int) < (ns.length : Int) := by omega
    go_enter Tryd.func4, Tryd.ntmps4
    go_wp2_with (go_at_call 8; refine (unhide HA _ (unhide HT)).mono ?_; rintro e w1 ⟨rfl, hb⟩)
    go_ret
    exact ⟨rfl, hb⟩
  have g : ¬ (100 : Int) < (ns.length : Int) := by omega
  have hn100 : ns.length ≤ 100 := by omega
  clear hs
  have HB0 := hide (Below.refl w.heap.size w)
  go_enter Tryd.func4, Tryd.ntmps4
  go_wp2_with fail
  refine (unhide HA _ (unhide HT)).mono ?_
  rintro e w1 ⟨rfl, hb⟩
  have HB1 := hide hb
  have A_1 := hide ((unhide HL).below hb)
  clear hb HB0 HL
  go_wp2
  go_loop [3] (fun j => ∃ i : Nat, i ≤ ns.length ∧ j = .int .i64 i ∧ ∀ k, k < i → (ns.getD k []).length ≤ 1024) (fun j => ns.length - (intOf j).toNat)
  case atStart => exact ⟨0, Nat.zero_le _, rfl, fun k hk => by omega⟩
  case round =>
    obtain ⟨i, hi, rfl, hall⟩ := hrel
    have HAl := hide hall
    clear hall
    by_cases hlt : i < ns.length
    · have hlt' : (i : Int) < (ns.length : Int) := by omega
      obtain ⟨_, hls0 | ⟨b, off, rfl, hbw, hc⟩⟩ := unhide A_1
      · omega
      have hci : w1.cell? ⟨b, off + i, none⟩ = some (.string (tx (ns.getD i []))) := hc i hlt
      have hxs := hsz i
      clear hc hbw
      by_cases hx : 1024 < (ns.getD i []).length
      · have g2 : (1024 : Int) < ((tx (ns.getD i [])).size : Int) := by rw [tx_size]; omega
        clear hx hxs
        generalize tx (ns.getD i []) = X at *
        go_wp2
        go_ret
        exact ⟨rfl, unhide HB1⟩
      · have g2 : ¬ (1024 : Int) < ((tx (ns.getD i [])).size : Int) := by rw [tx_size]; omega
        have HR := hide (show ∀ k, k < i + 1 → (ns.getD k []).length ≤ 1024 by
          intro k hk
          by_cases hki : k < i
          · exact unhide HAl k hki
          · obtain rfl : k = i := by omega
            omega)
        clear hx hxs
        generalize tx (ns.getD i []) = X at *
        go_wp2
        go_round
        case rel => exact ⟨i + 1, by omega, by go_num, unhide HR⟩
        case measure => simp [intOf]; omega
    · have hlt' : ¬ (i : Int) < (ns.length : Int) := by omega
      have h1 := hide hn100
      have h2 := hide (show ∀ n ∈ ns, n.length ≤ 4096 by
        intro n hn
        obtain ⟨k, hk, rfl⟩ := List.mem_iff_getElem.1 hn
        have := unhide HAl k (by omega)
        rw [List.getD_eq_getElem?_getD, List.getElem?_eq_getElem hk] at this
        exact Nat.le_trans this (by decide))
      have hB : w1.heap.size ≤ (w1.alloc (.cells #[] 9)).heap.size := by simp
      have A1b := hide ((unhide A_1).below (b_alloc w1 (.cells #[] 9)))
      have hn1 : ns.length ≤ 1000 := by omega
      go_wp2_with (at_builtin; refine app_ls rfl _ _ rfl rfl rfl (Own.empty w1) (unhide A1b) hn1 hB ?_; intro a2 cap2 w2 ho2 hg2; have ho2 := hide ho2; have hg2 := hide hg2)
      have hbb := hide (show Below w1.heap.size w1 w2 from (b_alloc w1 (.cells #[] 9)).grown (unhide hg2) (by simp) (fun k hk => by have hk2 : w1.heap.size = k := Option.some.inj hk; omega))
      have HB2 := hide (below_then (unhide HB1) (unhide hbb))
      have A_2 := hide ((unhide A_1).below (unhide hbb))
      have C_2 := hide ((unhide ho2).ls hn)
      clear HB1 A_1 A1b ho2 hg2 hbb
      cases hR : joinR ns with
      | none =>
        have HJ := hide (show joinA (joinR ns) = .tuple #[.string ⟨#[]⟩, .int .i64 120] by rw [hR]; rfl)
        have H9 := hide (fun W => (split_any ⟨#[]⟩ W (by decide)).mono fun e w' h => ((show walkR false (bs ⟨#[]⟩) = none from rfl) ▸ h : Names W w' e none).of_none)
        clear hR
        go_wp2_with fail
        refine (join_any a2 cap2 ns _ (unhide C_2) (unhide h1) (unhide h2)).mono ?_
        rw [unhide HJ]
        rintro e w3 ⟨rfl, hb⟩
        have HB3 := hide (below_then (unhide HB2) hb)
        have A_3 := hide ((unhide A_2).below hb)
        clear hb HB2 A_2 C_2
        go_wp2_with fail
        refine (refJoin_any a cap ns _ (unhide A_3) (unhide h1) (unhide h2)).mono ?_
        rw [unhide HJ]
        rintro e w4 ⟨rfl, hb⟩
        have HB4 := hide (below_then (unhide HB3) hb)
        have A_4 := hide ((unhide A_3).below hb)
        clear hb HB3 A_3
        go_wp2_with fail
        refine (unhide H9 _).mono ?_
        rintro e w5 ⟨a5, c5, rfl, hb⟩
        have HB5 := hide (below_then (unhide HB4) hb)
        have A_5 := hide ((unhide A_4).below hb)
        clear hb  HB4 A_4
        go_wp2
        go_ret
        exact ⟨rfl, unhide HB5⟩
      | some p =>
        have HJ := hide (show joinA (joinR ns) = .tuple #[.string (tx p), .int .i64 0] by rw [hR]; rfl)
        have hps : (tx p).size ≤ 900000 := by
          rw [tx_size]
          rw [join_iff] at hR
          rcases hR with ⟨_, rfl⟩ | ⟨_, _, _, h3, rfl⟩
          · simp
          · omega
        have hW := walk_join hR
        have H9 := hide (fun W => (split_any (tx p) W hps).mono fun e w' h => ((show walkR false (bs (tx p)) = some ns by rw [bs_tx]; exact hW) ▸ h : Names W w' e (some ns)).of_some)
        have hxx : ((tx p).toList == (tx p).toList) = true := by simp
        clear hps hW hR
        generalize tx p = X at *
        go_wp2_with fail
        refine (join_any a2 cap2 ns _ (unhide C_2) (unhide h1) (unhide h2)).mono ?_
        rw [unhide HJ]
        rintro e w3 ⟨rfl, hb⟩
        have HB3 := hide (below_then (unhide HB2) hb)
        have A_3 := hide ((unhide A_2).below hb)
        clear hb HB2 A_2 C_2
        go_wp2_with fail
        refine (refJoin_any a cap ns _ (unhide A_3) (unhide h1) (unhide h2)).mono ?_
        rw [unhide HJ]
        rintro e w4 ⟨rfl, hb⟩
        have HB4 := hide (below_then (unhide HB3) hb)
        have A_4 := hide ((unhide A_3).below hb)
        clear hb HB3 A_3
        go_wp2_with fail
        refine (unhide H9 _).mono ?_
        rintro e w5 ⟨a5, c5, rfl, hl, hb⟩
        have HB5 := hide (below_then (unhide HB4) hb)
        have A_5 := hide ((unhide A_4).below hb)
        have M_5 := hide hl
        clear hb hl HB4 A_4
        go_wp2_with fail
        refine (same_self _ _ _ _ ns _ (unhide M_5) (unhide A_5)).mono ?_
        rintro e w6 ⟨rfl, hb⟩
        have HB6 := hide (below_then (unhide HB5) hb)
        have A_6 := hide ((unhide A_5).below hb)
        have M_6 := hide ((unhide M_5).below hb)
        clear hb HB5 A_5 M_5
        go_wp2
        go_ret
        exact ⟨rfl, unhide HB6⟩
end Go.Proofs.YtoogcejbhehoaaaDoor
