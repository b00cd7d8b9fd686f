/- crc.Sum of parts, and the law's own copy of bytes. -/
import Derived.Test.YtknlgclbdoencaaDoorSums
import Derived.Deep.AppendLies
import Derived.Laws.BytesArg
namespace Go.Proofs.YtknlgclbdoencaaDoor
open Go.ChangeShapes Go.WideShapes Go.ChangeAt Go.RowKit

/-- a part: a slice value, and its bytes -/
def Part (w : World) (p : Value × List Nat) : Prop := Byt w p.1 p.2 ∧ (∀ b ∈ p.2, b < 256) ∧ p.2.length ≤ 9223372036854775807
def bytesOf (P : List (Value × List Nat)) : List Nat := (P.map (·.2)).flatten
theorem Byt.form {w : World} {v : Value} {l : List Nat} (h : Byt w v l) : ∃ a cap, v = .slice a l.length cap := by
  rcases h with ⟨rfl, a, cap, rfl⟩ | ⟨g, o, cap, rfl, _⟩
  · exact ⟨a, cap, rfl⟩
  · exact ⟨_, cap, rfl⟩
theorem bytesOf_snoc (P : List (Value × List Nat)) (k : Nat) (h : k < P.length) : bytesOf (P.take (k + 1)) = bytesOf (P.take k) ++ (P[k]).2 := by
  unfold bytesOf
  rw [List.take_succ_eq_append_getElem h]
  simp only [List.map_append, List.flatten_append, List.map_cons, List.map_nil, List.flatten_cons, List.flatten_nil, List.append_nil]
theorem bytesOf_lt {P : List (Value × List Nat)} (h : ∀ p ∈ P, ∀ b ∈ p.2, b < 256) : ∀ b ∈ bytesOf P, b < 256 := by
  intro b hb
  unfold bytesOf at hb
  obtain ⟨l, hl, hbl⟩ := List.mem_flatten.1 hb
  obtain ⟨p, hp, rfl⟩ := List.mem_map.1 hl
  exact h p hp b hbl

set_option maxHeartbeats 400000 in
theorem sum_any (g o cap : Nat) (P : List (Value × List Nat)) (w : World) (hT : Tab w) (hlen : P.length ≤ 9223372036854775807)
    (hp : ∀ p ∈ P, Part w p) (hc : ∀ i (h : i < P.length), w.cell? ⟨g, o + i, none⟩ = some (P[i]).1) :
    Calls Tryd.prog 10 #[.slice (some ⟨g, o, none⟩) P.length cap] w fun e w' => e = .returned (.int .u32 (Crc.sum (bytesOf P) : Nat)) ∧ w' = w := by
  have HT : Hid (Tab w) := hT
  clear hT
  have HC := hide hc
  have HP := hide hp
  have hlt : ∀ k, Crc.sum (bytesOf (P.take k)) < 4294967296 := fun k => Crc.sum_lt _ (bytesOf_lt fun p h => (hp p (List.mem_of_mem_take h)).2.1)
  have HL := hide hlt
  clear hc hp hlt
  go_enter Tryd.func10, Tryd.ntmps10
  go_wp2
  go_loop [3, 8] (fun t i => ∃ k : Nat, k ≤ P.length ∧ i = .int .i64 k ∧ t = .int .u32 (Crc.sum (bytesOf (P.take k)) : Nat)) (fun _ i => P.length - (intOf i).toNat)
  case atStart => exact ⟨0, Nat.zero_le _, rfl, by rw [show Crc.sum (bytesOf (P.take 0)) = 0 from Crc.more_nil 0]; rfl⟩
  case round =>
    obtain ⟨k, hk, rfl, rfl⟩ := hrel
    have hr := unhide HL k
    by_cases hlt : k < P.length
    · have hcell := unhide HC k hlt
      have hpk := unhide HP _ (List.getElem_mem hlt)
      obtain ⟨a, cp, hv⟩ := hpk.1.form
      have HS : Hid (Crc.sum (bytesOf (P.take (k + 1))) = Crc.more (Crc.sum (bytesOf (P.take k))) (P[k]).2) := by
        show _ = _
        rw [bytesOf_snoc P k hlt, Crc.sum_append]
      unfold Part at hpk
      rw [hv] at hcell hpk
      have HPK := hide hpk
      clear hpk hv
      generalize (P[k]).2 = l at *
      generalize Crc.sum (bytesOf (P.take k)) = r at *
      go_wp2_with (go_at_call 13; refine (more_any _ _ l _ HT.out (by omega) (unhide HPK).2.1 (unhide HPK).2.2 (unhide HPK).1).mono ?_; rintro e w' ⟨rfl, rfl⟩)
      go_round
      case rel => exact ⟨k + 1, by omega, by go_num, by rw [HS.out]⟩
      case measure => simp [intOf]; omega
    · go_wp2
      go_ret
      refine ⟨ret_int ?_, rfl⟩
      have hall : P.take k = P := List.take_of_length_le (by omega)
      rw [hall]

theorem Tryd.info5 : (Tryd.prog.info? 5).map (fun i => (i.zero, i.size, i.bytes)) = some (some (.int .u8 0), 1, 1) := by kernel_rfl

def cells (l : List Nat) : List Value := l.map fun n : Nat => Value.int .u8 (n : Int)
theorem cells_length (l : List Nat) : (cells l).length = l.length := by simp [cells]

/-- bytes of one's own: a slice in new memory, which nobody else has -/
def Own (base : Nat) (w : World) (v : Value) (l : List Nat) : Prop := w.ownsRow base 5 1 v l.length (cells l)

theorem cells_snoc (l : List Nat) (k : Nat) (h : k < l.length) : cells (l.take (k + 1)) = cells (l.take k) ++ [.int .u8 (l.getD k 0 : Nat)] := by
  rw [take_snoc_nat l k h]
  simp only [cells, List.map_append, List.map_cons, List.map_nil]

theorem below_own {B : Nat} {w wr w1 : World} {v : Value} {n : Nat} {xs : List Value} {o : Obj} (hB : B ≤ wr.heap.size) (hb : Below B w wr) (hown : wr.ownsRow B 5 1 v n xs)
    (hg : (wr.alloc o).grownBy w1 v.ownBlock) : Below B w w1 := by
  refine (hb.alloc hB o).grown hg (by simp; omega) ?_
  intro k hk
  exact (hown.lt k hk).1

set_option maxHeartbeats 400000 in
theorem own_some (g o cap : Nat) (l : List Nat) (w : World) (hlen : l.length ≤ 8192)
    (hc : ∀ i, i < l.length → w.cell? ⟨g, o + i, none⟩ = some (.int .u8 (l.getD i 0 : Nat))) :
    Calls Tryd.prog 11 #[.slice (some ⟨g, o, none⟩) l.length cap] w fun e w' => ∃ v', e = .returned v' ∧ Own w.heap.size w' v' l ∧ Below w.heap.size w w' := by
  obtain ⟨i0, hi, hz0, hz1, hz2⟩ := info_parts Tryd.info5
  have hg : ∀ i, i < l.length → g < w.heap.size := fun i h => World.block_lt_of_cell? w ⟨g, o + i, none⟩ (hc i h)
  have HG := hide hg
  have HC := hide hc
  clear hc hg
  generalize hB : w.heap.size = B at *
  have HB := hide hB
  clear hB
  go_enter Tryd.func11, Tryd.ntmps11
  go_wp2
  go_loopw [3, 4] (fun v i wr => ∃ k : Nat, k ≤ l.length ∧ i = .int .i64 k ∧ wr.ownsRow B 5 1 v k (cells (l.take k)) ∧ Below B w wr) (fun _ i _ => l.length - (intOf i).toNat)
  case atStart => exact ⟨0, Nat.zero_le _, rfl, World.ownsRow_nil _ _ _ _, Below.refl _ _⟩
  case round =>
    obtain ⟨k, hk, rfl, hown, hbel⟩ := hrel
    by_cases hlt : k < l.length
    · have hcell : wr.cell? ⟨g, o + k, none⟩ = some (.int .u8 (l.getD k 0 : Nat)) := (hbel.cell (unhide HG k hlt)).trans (unhide HC k hlt)
      have hBw : B ≤ wr.heap.size := by have := hbel.size; have := unhide HB; omega
      have HO := hide hown
      have HBel := hide hbel
      clear hown hbel
      have HK := hide (cells_snoc l k hlt)
      generalize l.getD k 0 = b at *
      go_wp2_with (at_builtin; refine wpList_append_own _ rfl _ _ 23 rfl B 5 i0 (.int .u8 0) 1 1 Tryd.underlying23 hi hz0 hz1 hz2 rfl (by decide) _ _ _ rfl ((unhide HO).alloc _) ⟨wr.heap.size, 0, none⟩ 1 1 [.int .u8 (b : Nat)] rfl rfl ?c1 ?c2 ?c3 ?c4 ?c5 ?_)
      case c1 =>
        intro j u hj
        match j, hj with
        | 0, hj => simp at hj; subst hj; simp [Addr.add]
      case c2 => intro u hu; simp at hu; subst hu; rfl
      case c3 => unfold maxLen; omega
      case c4 => omega
      case c5 => simp; omega
      · intro v' w1 hown' hgrow _
        rw [← unhide HK] at hown'
        have hbel' := below_own hBw (unhide HBel) (unhide HO) hgrow
        have HO' := hide hown'
        have HB' := hide hbel'
        clear hown' hgrow hbel' HO HBel HK hcell
        go_wp2
        go_roundw
        case rel => exact ⟨k + 1, by omega, by go_num, unhide HO', unhide HB'⟩
        case measure => simp [intOf]; omega
    · go_wp2
      go_ret
      have hall : l.take k = l := List.take_of_length_le (by omega)
      rw [hall, show k = l.length by omega] at hown
      exact ⟨_, rfl, hown, hbel⟩

set_option maxHeartbeats 400000 in
theorem own_none (a : Option Addr) (cap : Nat) (w : World) :
    Calls Tryd.prog 11 #[.slice a 0 cap] w fun e w' => ∃ v', e = .returned v' ∧ Own w.heap.size w' v' [] ∧ Below w.heap.size w w' := by
  go_enter Tryd.func11, Tryd.ntmps11
  go_wp2
  go_loop [3, 4] (fun v i => i = .int .i64 0 ∧ v = .slice none 0 0) (fun _ _ => 0)
  case atStart => exact ⟨rfl, rfl⟩
  case round =>
    obtain ⟨rfl, rfl⟩ := hrel
    go_wp2
    go_ret
    exact ⟨_, rfl, World.ownsRow_nil _ _ _ _, Below.refl _ _⟩

theorem own_any (v : Value) (l : List Nat) (w : World) (hlen : l.length ≤ 8192) (hb : Byt w v l) :
    Calls Tryd.prog 11 #[v] w fun e w' => ∃ v', e = .returned v' ∧ Own w.heap.size w' v' l ∧ Below w.heap.size w w' := by
  rcases hb with ⟨rfl, a, cap, rfl⟩ | ⟨g, o, cap, rfl, hcell⟩
  · exact own_none a cap w
  · exact own_some g o cap l w hlen hcell

/-- what is one's own is a slice that holds these bytes -/
theorem Own.byt {B : Nat} {w : World} {v : Value} {l : List Nat} (h : Own B w v l) : Byt w v l := by
  have h' := h
  obtain ⟨_, ⟨rfl, hn⟩ | ⟨g, cap, cur, rfl, _⟩⟩ := h
  · exact .inl ⟨List.length_eq_zero_iff.1 hn, none, 0, rfl⟩
  · refine .inr ⟨g, 0, cap, rfl, fun i hi => ?_⟩
    have := World.ownsRow.cellAt h' i (by omega)
    rw [Nat.zero_add, this]
    simp [cells, List.getElem?_eq_getElem hi]
theorem Byt.below {w w' : World} {v : Value} {l : List Nat} (h : Byt w v l) (hb : Below w.heap.size w w') : Byt w' v l := by
  rcases h with h | ⟨g, o, cap, rfl, hc⟩
  · exact .inl h
  · exact .inr ⟨g, o, cap, rfl, fun i hi => (hb.cell (World.block_lt_of_cell? w ⟨g, o + i, none⟩ (hc i hi))).trans (hc i hi)⟩
theorem Tab.below {w w' : World} (h : Tab w) (hb : Below w.heap.size w w') : Tab w' := fun i hi =>
  (hb.cell (World.block_lt_of_cell? w ⟨0, i, none⟩ (h i hi))).trans (h i hi)
theorem Own.below {B : Nat} {w w' : World} {v : Value} {l : List Nat} (h : Own B w v l) (hb : Below w.heap.size w w') : Own B w' v l := by
  refine World.ownsRow.kept h (row := none) ⟨hb.os, hb.tape, hb.output, hb.size, fun k hk _ => hb.block k hk⟩ ?_
  cases v.ownBlock <;> simp

/-- string(b) -/
def strOf (l : List Nat) : ByteArray := strOfNums (l.map fun n : Nat => (n : Int))
theorem bn_strOf (l : List Nat) (h : ∀ b ∈ l, b < 256) : bn (strOf l) = l := by
  unfold bn strOf
  rw [strOfNums_data, List.map_map, List.map_map]
  refine (List.map_congr_left (g := id) (fun b hb => ?_)).trans (List.map_id l)
  have := h b hb
  simp [Function.comp, Nat.mod_eq_of_lt this]
theorem strOf_size (l : List Nat) : (strOf l).size = l.length := by unfold strOf; rw [strOfNums_size, List.length_map]
theorem conv_any (v : Value) (l : List Nat) (w : World) (h : Byt w v l) : (convert 23 9 v).run Tryd.prog w = .ok (.string (strOf l)) w := by
  rcases h with ⟨rfl, a, cap, rfl⟩ | ⟨g, o, cap, rfl, hc⟩
  · cases a with
    | none => exact run_convert_bytes_nil w 23 5 Tryd.underlying23 Tryd.underlying5 0 cap 9 Tryd.underlying9
    | some a =>
      rw [run_convert_bytes_string w 23 9 5 _ 0 cap Tryd.underlying23 Tryd.underlying5 Tryd.underlying9]
      have := run_bytesToString (P := Tryd.prog) w a 0 cap [] (run_loadCells_list w a [] (fun j v hj => by simp at hj))
      rw [this]
      rfl
  · exact run_convert_bytes_arg w 23 5 Tryd.underlying23 Tryd.underlying5 g o l.length cap _ (by simp) (fun i hi => by rw [hc i hi]; simp [List.getElem?_eq_getElem hi]) 9 Tryd.underlying9
end Go.Proofs.YtknlgclbdoencaaDoor
