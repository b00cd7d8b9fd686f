/- The statements' bound on what is played; a call that is copied out of its slice. -/
import Derived.Test.YtmkmebogfcbphaaArgs
import Derived.Test.YtmkmebogfcbphaaAwake
namespace Go.Proofs.Ytmkmebogfcbphaa
open Go.ChangeShapes Go.WideShapes Go.ChangeAt Go.RowKit

theorem IsCalls.grow {w w' : World} {a : Option Addr} {len B : Nat} {f : Nat → Cl} (h : IsCalls w a len f) (hb : Below B w w') (hB : w.heap.size ≤ B) : IsCalls w' a len f :=
  ⟨h.1, h.2.imp id (fun ⟨b, off, e, hh⟩ => ⟨b, off, e, fun i hi => (hh i hi).grow hb hB⟩)⟩

/-- as many calls, and fates, as are played -/
def Short (len : Nat) (f : Nat → Cl) : Prop := len ≤ 120 ∧ ∀ i, i < len → (f i).fs.length ≤ 200

set_option maxHeartbeats 2000000 in
set_option maxRecDepth 20000 in
theorem long_any (f : Nat → Cl) (a : Option Addr) (len cap : Nat) (w : World) (h : IsCalls w a len f) :
    Calls Try.prog 9 #[.slice a len cap] w fun e w' => w' = w ∧ (e = .returned (.bool true) ∨ e = .returned (.bool false) ∧ Short len f) := by
  by_cases hl : 120 < len
  · have hl' : (120 : Int) < (len : Int) := by omega
    go_enter Try.func9, Try.ntmps9
    go_wp2
    go_ret
    exact ⟨rfl, .inl rfl⟩
  · have hl' : ¬ (120 : Int) < (len : Int) := by omega
    have HI := hide h
    clear h
    go_enter Try.func9, Try.ntmps9
    go_wp2_with fail
    go_loopw [3] (fun j wr => ∃ k : Nat, k ≤ len ∧ j = .int .i64 (k : Int) ∧ wr = w ∧ ∀ i, i < k → (f i).fs.length ≤ 200) (fun j _ => len - (intOf j).toNat)
    case atStart => exact ⟨0, Nat.zero_le _, rfl, rfl, fun i hi => absurd hi (Nat.not_lt_zero _)⟩
    case round =>
      obtain ⟨k, hk, rfl, rfl, hs⟩ := hrel
      have HS := hide hs
      clear hs
      by_cases hlt : k < len
      · have hlt' : (k : Int) < (len : Int) := by omega
        obtain ⟨_, h0 | ⟨b, off, rfl, hc⟩⟩ := unhide HI
        · omega
        · have hck := hc k hlt
          have c5 := hck.c5
          obtain ⟨av, cv, ev, _⟩ := hck.ints
          rw [ev] at c5
          have HN := hide hck.bl
          clear hc hck ev
          by_cases hf : 200 < (f k).fs.length
          · have hf' : (200 : Int) < ((f k).fs.length : Int) := by omega
            go_wp2
            go_ret
            exact ⟨rfl, .inl rfl⟩
          · have hf' : ¬ (200 : Int) < ((f k).fs.length : Int) := by omega
            go_wp2
            go_roundw
            case rel =>
              refine ⟨k + 1, by omega, by go_num, trivial, fun i hi => ?_⟩
              by_cases e : i = k
              · subst e; omega
              · exact unhide HS i (by omega)
            case measure => simp [intOf]; omega
      · have hlt' : ¬ (k : Int) < (len : Int) := by omega
        have hkl : k = len := by omega
        subst hkl
        go_wp2
        go_ret
        exact ⟨rfl, .inr ⟨rfl, by omega, unhide HS⟩⟩

/-- the disk behind a step of the law, and what the law keeps -/
structure Stp (W w : World) (d : Nat) (m : Dk) (k : Nat) (fp : List Nat) : Prop where
  disk : IsDisk w d m k fp
  bel : Below W.heap.size W w
  new : ∀ x ∈ fp, W.heap.size ≤ x
theorem Turned.moves {w w' : World} {d : Nat} {m : Dk} {k : Nat} {fp : List Nat} (h : Turned w w' d m k fp) : Moves fp w w' := by
  obtain ⟨_, _, hm, _⟩ := h
  exact hm
theorem Stp.grow {W w w' : World} {d : Nat} {m : Dk} {k : Nat} {fp : List Nat} (h : Stp W w d m k fp) (hb : Below w.heap.size w w') : Stp W w' d m k fp :=
  ⟨h.disk.grow hb, h.bel.trans (hb.mono h.bel.size), h.new⟩
theorem Stp.turn {W w w' : World} {d : Nat} {m m' : Dk} {k k' : Nat} {fp : List Nat} (h : Stp W w d m k fp) (ht : Turned w w' d m' k' fp) : ∃ fp', Stp W w' d m' k' fp' := by
  obtain ⟨fp', h1, h2, h3⟩ := ht
  refine ⟨fp', h1, Moves.below h.bel h2 h.new h.bel.size, fun x hx => ?_⟩
  rcases h3 x hx with h4 | h4
  · exact h.new x h4
  · exact Nat.le_trans h.bel.size h4
theorem Stp.mono {W w : World} {d : Nat} {m : Dk} {k k' : Nat} {fp : List Nat} (h : Stp W w d m k fp) (hk : k ≤ k') : Stp W w d m k' fp := ⟨h.disk.mono hk, h.bel, h.new⟩

end Go.Proofs.Ytmkmebogfcbphaa
