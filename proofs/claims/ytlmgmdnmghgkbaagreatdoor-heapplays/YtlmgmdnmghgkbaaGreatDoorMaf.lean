/- Texts that the proof needs, one behind the other. -/
import Derived.Test.YtlmgmdnmghgkbaaGreatDoorMae
import Derived.Maps.AppendAt
import Derived.Deep.RegionHeld3
import Derived.Lib.SliceRun
import Derived.Test.YtlmgmdnmghgkbaaGreatDoorMaa
/- A disk of the program in memory, and its small functions. -/
namespace Go.Proofs.YtlmgmdnmghgkbaaGreatDoor.L3
open Go.ChangeShapes Go.WideShapes Go.ChangeAt Go.RowKit

/-- nothing but these blocks has turned -/
structure Moves (fp : List Nat) (w w' : World) : Prop where
  os : w'.os = w.os
  tape : w'.tape = w.tape
  output : w'.output = w.output
  size : w.heap.size ≤ w'.heap.size
  block : ∀ k, k < w.heap.size → k ∉ fp → w'.heap[k]? = w.heap[k]?

theorem Moves.refl (fp : List Nat) (w : World) : Moves fp w w := ⟨rfl, rfl, rfl, Nat.le_refl _, fun _ _ _ => rfl⟩
theorem Moves.of_below {w w' : World} (fp : List Nat) (h : Below w.heap.size w w') : Moves fp w w' := ⟨h.os, h.tape, h.output, h.size, fun k hk _ => h.block k hk⟩
theorem Moves.to_below {w w' : World} (h : Moves [] w w') : Below w.heap.size w w' := ⟨h.os, h.tape, h.output, h.size, fun k hk => h.block k hk List.not_mem_nil⟩
theorem Moves.of_grown {w w' : World} {r : Option Nat} {fp : List Nat} (h : w.grownBy w' r) (hr : ∀ k, r = some k → k ∈ fp) : Moves fp w w' :=
  ⟨h.os, h.tape, h.output, h.size, fun k hk hn => h.block k hk (fun e => hn (hr k e.symm))⟩
theorem Moves.trans {fp fq : List Nat} {w w1 w2 : World} (h : Moves fp w w1) (k : Moves fq w1 w2) (hq : ∀ x ∈ fq, x ∈ fp ∨ w.heap.size ≤ x) : Moves fp w w2 :=
  ⟨k.os.trans h.os, k.tape.trans h.tape, k.output.trans h.output, Nat.le_trans h.size k.size, fun i hi hn => (k.block i (Nat.lt_of_lt_of_le hi h.size) (fun hm => by
    rcases hq i hm with h1 | h1
    · exact hn h1
    · omega)).trans (h.block i hi hn)⟩
theorem Moves.then {fp : List Nat} {w w1 w2 : World} (h : Moves fp w w1) (k : Moves fp w1 w2) : Moves fp w w2 := h.trans k (fun _ hx => .inl hx)
theorem Moves.mono {fp fq : List Nat} {w w1 : World} (h : Moves fp w w1) (hs : ∀ x ∈ fp, x ∈ fq ∨ w.heap.size ≤ x) : Moves fq w w1 := (Moves.refl fq w).trans h hs
theorem Moves.below {fp : List Nat} {B : Nat} {w0 w w' : World} (h0 : Below B w0 w) (h : Moves fp w w') (hfp : ∀ x ∈ fp, B ≤ x) (hB : B ≤ w.heap.size) : Below B w0 w' :=
  h0.trans ⟨h.os, h.tape, h.output, h.size, fun k hk => h.block k (by omega) (fun hm => by have := hfp k hm; omega)⟩
theorem Moves.set (w : World) (g j : Nat) (u : Value) {fp : List Nat} (hg : g ∈ fp) : Moves fp w (w.setCell ⟨g, j, none⟩ u) :=
  ⟨rfl, rfl, rfl, by simp, fun k _ hn => Below.heap_setCell w ⟨g, j, none⟩ u k (fun e => hn (by rw [e]; exact hg))⟩
theorem Moves.cell {fp : List Nat} {w w' : World} (h : Moves fp w w') {a : Addr} {v : Value} (hc : w.cell? a = some v) (hn : a.block ∉ fp) : w'.cell? a = some v :=
  (World.cell?_of_block (h.block a.block (World.block_lt_of_cell? w a hc) hn)).trans hc

/-- the power as the program has it -/
def pw (m : Dk) : Int := if m.gone = true then -2 else m.left

def opCells (op : List (Nat × ByteArray)) : List Value := op.flatMap fun p => [.int .i64 (p.1 : Int), .string p.2]
theorem opCells_snoc (op : List (Nat × ByteArray)) (p : Nat × ByteArray) : opCells (op ++ [p]) = opCells op ++ [.int .i64 (p.1 : Int), .string p.2] := by
  simp [opCells]
theorem opCells_length (op : List (Nat × ByteArray)) : (opCells op).length = op.length * 2 := by
  induction op with
  | nil => rfl
  | cons p r ih =>
    have e : opCells (p :: r) = .int .i64 (p.1 : Int) :: .string p.2 :: opCells r := rfl
    rw [e, List.length_cons, List.length_cons, List.length_cons, ih]
    omega
theorem opCells_at (op : List (Nat × ByteArray)) : ∀ (j : Nat) (h : j < op.length), (opCells op)[j * 2]? = some (.int .i64 (op[j].1 : Int)) ∧ (opCells op)[j * 2 + 1]? = some (.string op[j].2) := by
  induction op with
  | nil => intro j h; simp at h
  | cons p r ih =>
    intro j h
    have e : opCells (p :: r) = .int .i64 (p.1 : Int) :: .string p.2 :: opCells r := rfl
    match j, h with
    | 0, _ => rw [e]; exact ⟨rfl, rfl⟩
    | j + 1, h =>
      have := ih j (by simp at h; omega)
      rw [e, show (j + 1) * 2 = j * 2 + 1 + 1 by omega, List.getElem?_cons_succ, List.getElem?_cons_succ, List.getElem?_cons_succ, List.getElem?_cons_succ]
      exact this

/-- a disk in memory -/
structure DiskAt (w : World) (d : Nat) (m : Dk) (c fb lb : Nat) (ov : Value) : Prop where
  blk : w.heap[d]? = some (.cells #[.int .i64 (m.old.length : Int), .int .i64 (pw m), .map (some fb), .map (some lb), ov] 184 (0, 0))
  fl : ∃ F nf, Sec w fb nf F ∧ nf + m.op.length ≤ c ∧ ∀ i, i < m.old.length → (F i).getD zeros = m.old.getD i ByteArray.empty
  la : ∃ L, Sec w lb m.op.length L ∧ ∀ i, i < m.old.length → L i = lastW m.op i
  op : w.ownsRow 0 288 2 ov m.op.length (opCells m.op)
  ne : fb ≠ lb
  nd : ov.ownBlock ≠ some d
  ok : Ok m

def fpOf (d fb lb : Nat) (ov : Value) : List Nat := d :: fb :: lb :: ov.ownBlock.toList

variable {w w' : World} {d : Nat} {m : Dk} {c fb lb : Nat} {ov : Value}

theorem DiskAt.cell0 (h : DiskAt w d m c fb lb ov) : w.cell? ⟨d, 0, none⟩ = some (.int .i64 (m.old.length : Int)) := by simp [World.cell?, h.blk]
theorem DiskAt.cell1 (h : DiskAt w d m c fb lb ov) : w.cell? ⟨d, 1, none⟩ = some (.int .i64 (pw m)) := by simp [World.cell?, h.blk]
theorem DiskAt.cell2 (h : DiskAt w d m c fb lb ov) : w.cell? ⟨d, 2, none⟩ = some (.map (some fb)) := by simp [World.cell?, h.blk]
theorem DiskAt.cell3 (h : DiskAt w d m c fb lb ov) : w.cell? ⟨d, 3, none⟩ = some (.map (some lb)) := by simp [World.cell?, h.blk]
theorem DiskAt.cell4 (h : DiskAt w d m c fb lb ov) : w.cell? ⟨d, 4, none⟩ = some ov := by simp [World.cell?, h.blk]
theorem DiskAt.free (h : DiskAt w d m c fb lb ov) (i : Nat) : w.frozen? ⟨d, i, none⟩ = false := by simp [World.frozen?, h.blk]
theorem DiskAt.dlt (h : DiskAt w d m c fb lb ov) : d < w.heap.size := (Array.getElem?_eq_some_iff.1 h.blk).1
theorem DiskAt.lt (h : DiskAt w d m c fb lb ov) : ∀ x ∈ fpOf d fb lb ov, x < w.heap.size := by
  intro x hx
  simp [fpOf] at hx
  obtain ⟨F, nf, h1, _⟩ := h.fl
  obtain ⟨L, h2, _⟩ := h.la
  rcases hx with rfl | rfl | rfl | hx
  · exact h.dlt
  · exact h1.lt
  · exact h2.lt
  · exact (h.op.lt x hx).2
theorem DiskAt.df (h : DiskAt w d m c fb lb ov) : d ≠ fb := by
  intro e
  obtain ⟨F, nf, h1, _⟩ := h.fl
  obtain ⟨es, cl, h1⟩ := h1.kind
  have h0 := h.blk
  rw [e, h1] at h0
  cases h0
theorem DiskAt.dl (h : DiskAt w d m c fb lb ov) : d ≠ lb := by
  intro e
  obtain ⟨F, h1, _⟩ := h.la
  obtain ⟨es, cl, h1⟩ := h1.kind
  have h0 := h.blk
  rw [e, h1] at h0
  cases h0
theorem ownsRow_kind {b : Nat} {e : TypeId} {size : Nat} {v : Value} {n : Nat} {xs : List Value} {g : Nat} (h : w.ownsRow b e size v n xs) (hv : v.ownBlock = some g) : ∃ cur, w.heap[g]? = some (.cells cur e (0, 0)) := by
  rcases h.2 with ⟨rfl, _⟩ | ⟨g', cap, cur, rfl, _, hg, _⟩
  · simp [Value.ownBlock] at hv
  · simp [Value.ownBlock] at hv
    subst hv
    exact ⟨cur, hg⟩
theorem DiskAt.of (h : DiskAt w d m c fb lb ov) : ov.ownBlock ≠ some fb := by
  intro e
  obtain ⟨cur, h0⟩ := ownsRow_kind h.op e
  obtain ⟨F, nf, h1, _⟩ := h.fl
  obtain ⟨es, cl, h1⟩ := h1.kind
  rw [h1] at h0
  cases h0
theorem DiskAt.ol (h : DiskAt w d m c fb lb ov) : ov.ownBlock ≠ some lb := by
  intro e
  obtain ⟨cur, h0⟩ := ownsRow_kind h.op e
  obtain ⟨F, h1, _⟩ := h.la
  obtain ⟨es, cl, h1⟩ := h1.kind
  rw [h1] at h0
  cases h0
theorem ownsRow_same {b : Nat} {e : TypeId} {size : Nat} {v : Value} {n : Nat} {xs : List Value} (h : w.ownsRow b e size v n xs) (hs : ∀ g, v.ownBlock = some g → w'.heap[g]? = w.heap[g]?) : w'.ownsRow b e size v n xs := by
  refine ⟨h.1, ?_⟩
  rcases h.2 with hn | ⟨g, cap, cur, rfl, hb, hgg, rest⟩
  · exact .inl hn
  · exact .inr ⟨g, cap, cur, rfl, hb, (hs g rfl).trans hgg, rest⟩
theorem DiskAt.same (h : DiskAt w d m c fb lb ov) (hs : ∀ x ∈ fpOf d fb lb ov, w'.heap[x]? = w.heap[x]?) : DiskAt w' d m c fb lb ov := by
  obtain ⟨F, nf, h1, r1⟩ := h.fl
  obtain ⟨L, h2, r2⟩ := h.la
  exact ⟨(hs d (by simp [fpOf])).trans h.blk, ⟨F, nf, h1.same (hs fb (by simp [fpOf])), r1⟩, ⟨L, h2.same (hs lb (by simp [fpOf])), r2⟩, ownsRow_same h.op (fun g hg => hs g (by simp [fpOf, hg])), h.ne, h.nd, h.ok⟩
theorem DiskAt.keep {fq : List Nat} (h : DiskAt w d m c fb lb ov) (hm : Moves fq w w') (hd : ∀ x ∈ fpOf d fb lb ov, x ∉ fq) : DiskAt w' d m c fb lb ov :=
  h.same (fun x hx => hm.block x (h.lt x hx) (hd x hx))
theorem DiskAt.grow (h : DiskAt w d m c fb lb ov) (hm : Below w.heap.size w w') : DiskAt w' d m c fb lb ov :=
  h.same (fun x hx => hm.block x (h.lt x hx))
/-- another power -/
theorem DiskAt.power (h : DiskAt w d m c fb lb ov) (m' : Dk) (p : Int) (hp : pw m' = p) (ho : m'.old = m.old) (hop : m'.op = m.op) (hok : Ok m') : DiskAt (w.setCell ⟨d, 1, none⟩ (.int .i64 p)) d m' c fb lb ov := by
  have hm : Moves [d] w (w.setCell ⟨d, 1, none⟩ (.int .i64 p)) := Moves.set w d 1 _ (by simp)
  obtain ⟨F, nf, h1, r1⟩ := h.fl
  obtain ⟨L, h2, r2⟩ := h.la
  refine ⟨?_, ⟨F, nf, h1.same (hm.block _ h1.lt (by have := h.df; simp; omega)), by rw [ho, hop]; exact r1⟩, ⟨L, by rw [hop]; exact h2.same (hm.block _ h2.lt (by have := h.dl; simp; omega)), by rw [ho, hop]; exact r2⟩, ?_, h.ne, h.nd, hok⟩
  · rw [ho, hp]
    simp [World.setCell, Array.getElem?_modify, h.blk]
  · rw [hop]
    exact ownsRow_same h.op (fun g hg => hm.block g (h.op.lt g hg).2 (by simp; intro e; subst e; exact h.nd hg))

/-! the small functions -/
set_option maxHeartbeats 400000 in
theorem has_yes (d : Nat) (n N : Int) (w : World) (h0 : w.cell? ⟨d, 0, none⟩ = some (.int .i64 N)) (h1 : 0 ≤ n) (h2 : n < N) :
    Calls Tryz.prog 174 #[.pointer (some ⟨d, 0, none⟩), .int .i64 n] w fun e w' => e = .returned (.bool true) ∧ w' = w := by
  go_enter Tryz.func174, Tryz.ntmps174
  go_wp2
  go_ret
  exact ⟨rfl, rfl⟩
set_option maxHeartbeats 400000 in
theorem has_no (d : Nat) (n N : Int) (w : World) (h0 : w.cell? ⟨d, 0, none⟩ = some (.int .i64 N)) (h : n < 0 ∨ N ≤ n) :
    Calls Tryz.prog 174 #[.pointer (some ⟨d, 0, none⟩), .int .i64 n] w fun e w' => e = .returned (.bool false) ∧ w' = w := by
  by_cases h1 : n < 0
  · have h2 : ¬ 0 ≤ n := by omega
    go_enter Tryz.func174, Tryz.ntmps174
    go_wp2
    go_ret
    simp
  · have h2 : 0 ≤ n := by omega
    have h3 : ¬ n < N := by omega
    go_enter Tryz.func174, Tryz.ntmps174
    go_wp2
    go_ret
    exact ⟨rfl, rfl⟩
set_option maxHeartbeats 400000 in
theorem fails_gone (d : Nat) (w : World) (h1 : w.cell? ⟨d, 1, none⟩ = some (.int .i64 (-2))) :
    Calls Tryz.prog 173 #[.pointer (some ⟨d, 0, none⟩)] w fun e w' => e = .returned (.bool true) ∧ w' = w := by
  go_enter Tryz.func173, Tryz.ntmps173
  go_wp2
  go_ret
  exact ⟨rfl, rfl⟩
set_option maxHeartbeats 400000 in
theorem fails_now (d : Nat) (w : World) (h1 : w.cell? ⟨d, 1, none⟩ = some (.int .i64 0)) (hf : w.frozen? ⟨d, 1, none⟩ = false) :
    Calls Tryz.prog 173 #[.pointer (some ⟨d, 0, none⟩)] w fun e w' => e = .returned (.bool true) ∧ w' = w.setCell ⟨d, 1, none⟩ (.int .i64 (-2)) := by
  go_enter Tryz.func173, Tryz.ntmps173
  go_wp2
  go_ret
  exact ⟨rfl, rfl⟩
set_option maxHeartbeats 400000 in
theorem fails_not (d : Nat) (p : Int) (w : World) (h1 : w.cell? ⟨d, 1, none⟩ = some (.int .i64 p)) (h2 : p ≠ -2) (h3 : p ≠ 0) :
    Calls Tryz.prog 173 #[.pointer (some ⟨d, 0, none⟩)] w fun e w' => e = .returned (.bool false) ∧ w' = w := by
  go_enter Tryz.func173, Tryz.ntmps173
  go_wp2
  go_ret
  exact ⟨rfl, rfl⟩
set_option maxHeartbeats 400000 in
theorem spend_some (d : Nat) (p : Int) (w : World) (h1 : w.cell? ⟨d, 1, none⟩ = some (.int .i64 p)) (hf : w.frozen? ⟨d, 1, none⟩ = false) (h2 : 0 < p) (h3 : p ≤ 9223372036854775807) :
    Calls Tryz.prog 175 #[.pointer (some ⟨d, 0, none⟩)] w fun e w' => e = .returned (.tuple #[]) ∧ w' = w.setCell ⟨d, 1, none⟩ (.int .i64 (p - 1)) := by
  have hw : IntKind.i64.wrap (p - 1) = p - 1 := by rw [IntKind.wrap_i64]; omega
  go_enter Tryz.func175, Tryz.ntmps175
  go_wp2
  go_end0
  exact ⟨rfl, rfl⟩
set_option maxHeartbeats 400000 in
theorem spend_none (d : Nat) (p : Int) (w : World) (h1 : w.cell? ⟨d, 1, none⟩ = some (.int .i64 p)) (h2 : ¬ 0 < p) :
    Calls Tryz.prog 175 #[.pointer (some ⟨d, 0, none⟩)] w fun e w' => e = .returned (.tuple #[]) ∧ w' = w := by
  go_enter Tryz.func175, Tryz.ntmps175
  go_wp2
  go_end0
  exact ⟨rfl, rfl⟩
end Go.Proofs.YtlmgmdnmghgkbaaGreatDoor.L3

/- What is asked of a disk: Read, Sectors, Open, Down. -/
namespace Go.Proofs.YtlmgmdnmghgkbaaGreatDoor.L3
open Go.ChangeShapes Go.WideShapes Go.ChangeAt Go.RowKit

set_option maxHeartbeats 400000 in
theorem lasting_some (b k : Nat) (f : Nat → Option ByteArray) (n : Int) (s : ByteArray) (w : World) (h : Sec w b k f) (h0 : 0 ≤ n) (h1 : n < 4096) (hf : f n.toNat = some s) :
    Calls Tryz.prog 182 #[.map (some b), .int .i64 n] w fun e w' => e = .returned (.string s) ∧ Below w.heap.size w w' := by
  have hl := h.look h0 h1 hf
  go_enter Tryz.func182, Tryz.ntmps182
  go_wp2
  go_ret
  exact ⟨rfl, (Below.refl _ _).alloc (Nat.le_refl _) _⟩
set_option maxHeartbeats 400000 in
theorem lasting_none (b k : Nat) (f : Nat → Option ByteArray) (n : Int) (w : World) (h : Sec w b k f) (h0 : 0 ≤ n) (h1 : n < 4096) (hf : f n.toNat = none) :
    Calls Tryz.prog 182 #[.map (some b), .int .i64 n] w fun e w' => e = .returned (.string zeros) ∧ Below w.heap.size w w' := by
  have hl := h.look_none h0 h1 hf
  go_enter Tryz.func182, Tryz.ntmps182
  go_wp2_with (go_at_call 170; refine (zeros_any _).mono ?_; rintro e w' ⟨rfl, hb⟩)
  go_ret
  refine ⟨rfl, ?_⟩
  exact ((Below.refl _ _).alloc (Nat.le_refl _) _).trans (hb.mono (by simp))
theorem lasting_any (b k : Nat) (f : Nat → Option ByteArray) (n : Int) (w : World) (h : Sec w b k f) (h0 : 0 ≤ n) (h1 : n < 4096) :
    Calls Tryz.prog 182 #[.map (some b), .int .i64 n] w fun e w' => e = .returned (.string ((f n.toNat).getD zeros)) ∧ Below w.heap.size w w' := by
  cases hf : f n.toNat with
  | none => exact lasting_none b k f n w h h0 h1 hf
  | some s => exact lasting_some b k f n s w h h0 h1 hf

variable {d : Nat} {m : Dk} {c fb lb : Nat} {ov : Value}

set_option maxHeartbeats 400000 in
set_option maxRecDepth 20000 in
theorem read_gone (n : Int) (w : World) (h : DiskAt w d m c fb lb ov) (hg : m.gone = true) :
    Calls Tryz.prog 141 #[.pointer (some ⟨d, 0, none⟩), .int .i64 n] w fun e w' => e = .returned (.tuple #[.string ByteArray.empty, .int .i64 30]) ∧ Below w.heap.size w w' := by
  have h1 := h.cell1
  have e : pw m = -2 := by unfold pw; rw [if_pos hg]
  rw [e] at h1
  go_enter Tryz.func141, Tryz.ntmps141
  go_wp2
  go_ret2
  exact ⟨rfl, Below.refl _ _⟩
set_option maxHeartbeats 400000 in
set_option maxRecDepth 20000 in
theorem read_out (n : Int) (w : World) (h : DiskAt w d m c fb lb ov) (hg : m.gone = false) (hn : n < 0 ∨ (m.old.length : Int) ≤ n) :
    Calls Tryz.prog 141 #[.pointer (some ⟨d, 0, none⟩), .int .i64 n] w fun e w' => e = .returned (.tuple #[.string ByteArray.empty, .int .i64 31]) ∧ Below w.heap.size w w' := by
  have h1 := h.cell1
  have e : pw m = m.left := by unfold pw; rw [if_neg (by rw [hg]; decide)]
  rw [e] at h1
  have hl : m.left ≠ -2 := by have := h.ok.left; omega
  have h0 := hide h.cell0
  have HN := hide hn
  clear hn
  go_enter Tryz.func141, Tryz.ntmps141
  go_wp2_with (go_at_call 174; refine (has_no _ _ _ _ (unhide h0) (unhide HN)).mono ?_; rintro e w' ⟨rfl, rfl⟩)
  go_ret2
  exact ⟨rfl, Below.refl _ _⟩
set_option maxHeartbeats 400000 in
set_option maxRecDepth 20000 in
theorem read_open (n : Int) (s : ByteArray) (w : World) (h : DiskAt w d m c fb lb ov) (hg : m.gone = false) (hn0 : 0 ≤ n) (hn1 : n < (m.old.length : Int)) (hs : lastW m.op n.toNat = some s) :
    Calls Tryz.prog 141 #[.pointer (some ⟨d, 0, none⟩), .int .i64 n] w fun e w' => e = .returned (.tuple #[.string s, .int .i64 0]) ∧ Below w.heap.size w w' := by
  have h1 := h.cell1
  have e : pw m = m.left := by unfold pw; rw [if_neg (by rw [hg]; decide)]
  rw [e] at h1
  have hl : m.left ≠ -2 := by have := h.ok.left; omega
  have h0 := hide h.cell0
  have h3 := h.cell3
  obtain ⟨L, hL, hLw⟩ := h.la
  have hmany := h.ok.many
  have hlk := hL.look (n := n) hn0 (by omega) ((hLw n.toNat (by omega)).trans hs)
  have hsz : s.size ≤ 1000000 := by have := (h.ok.op _ (lastW_mem _ _ _ hs)).2; simp at this; omega
  have HZ := hide hsz
  clear hsz
  have H0 := hide hn0
  have H1 := hide hn1
  clear hn0 hn1 hL hLw hmany hs e
  go_enter Tryz.func141, Tryz.ntmps141
  go_wp2_with (first | (go_at_call 174; refine (has_yes _ _ _ _ (unhide h0) (unhide H0) (unhide H1)).mono ?_; rintro e w' ⟨rfl, rfl⟩) | (go_at_call 176; refine (clone_any _ _ (unhide HZ)).mono ?_; rintro e w' ⟨rfl, hb⟩))
  go_ret2
  refine ⟨rfl, ?_⟩
  exact ((Below.refl _ _).alloc (Nat.le_refl _) _).trans (hb.mono (by simp))
set_option maxHeartbeats 400000 in
set_option maxRecDepth 20000 in
theorem read_last (n : Int) (w : World) (h : DiskAt w d m c fb lb ov) (hg : m.gone = false) (hn0 : 0 ≤ n) (hn1 : n < (m.old.length : Int)) (hs : lastW m.op n.toNat = none) :
    Calls Tryz.prog 141 #[.pointer (some ⟨d, 0, none⟩), .int .i64 n] w fun e w' => e = .returned (.tuple #[.string (m.old.getD n.toNat ByteArray.empty), .int .i64 0]) ∧ Below w.heap.size w w' := by
  have h1 := h.cell1
  have e : pw m = m.left := by unfold pw; rw [if_neg (by rw [hg]; decide)]
  rw [e] at h1
  have hl : m.left ≠ -2 := by have := h.ok.left; omega
  have h0 := hide h.cell0
  have h2 := h.cell2
  have h3 := h.cell3
  obtain ⟨L, hL, hLw⟩ := h.la
  obtain ⟨F, nf, hF, _, hFw⟩ := h.fl
  have hmany := h.ok.many
  have hlk := hL.look_none (n := n) hn0 (by omega) ((hLw n.toNat (by omega)).trans hs)
  have hsz : (m.old.getD n.toNat ByteArray.empty).size ≤ 1000000 := by have := h.ok.old n.toNat (by omega); omega
  have hval := hFw n.toNat (by omega)
  have hn4 : n < 4096 := by omega
  have hdl := h.dlt
  have H2 : ∀ o, (w.alloc o).cell? ⟨d, 2, none⟩ = some (.map (some fb)) := fun o => by
    rw [Below.cell ((Below.refl _ _).alloc (Nat.le_refl _) o) (by exact hdl)]
    exact h2
  have HF : ∀ o, Sec (w.alloc o) fb nf F := fun o => hF.same (Below.heap_alloc _ _ _ hF.lt)
  have HZ := hide hsz
  clear hsz
  have H0 := hide hn0
  have H1 := hide hn1
  have H4 := hide hn4
  clear hn0 hn1 hn4 hL hLw hmany hs e hFw hF h2
  go_enter Tryz.func141, Tryz.ntmps141
  go_wp2_with (first | (go_at_call 174; refine (has_yes _ _ _ _ (unhide h0) (unhide H0) (unhide H1)).mono ?_; rintro e w' ⟨rfl, rfl⟩) | (go_at_call 182; refine (lasting_any _ _ _ _ _ (HF _) (unhide H0) (unhide H4)).mono ?_; rintro e w' ⟨rfl, hb1⟩; rw [hval]) | (go_at_call 176; refine (clone_any _ _ (unhide HZ)).mono ?_; rintro e w' ⟨rfl, hb⟩))
  go_ret2
  refine ⟨rfl, ?_⟩
  exact (((Below.refl _ _).alloc (Nat.le_refl _) _).trans (hb1.mono (by simp))).trans (hb.mono (by have := hb1.size; simp at this; omega))

/-- Read: the document's answer -/
theorem read_any (n : Int) (w : World) (h : DiskAt w d m c fb lb ov) :
    Calls Tryz.prog 141 #[.pointer (some ⟨d, 0, none⟩), .int .i64 n] w fun e w' => e = .returned (.tuple #[.string (readM m n).1, .int .i64 (readM m n).2]) ∧ Below w.heap.size w w' := by
  unfold readM
  cases hg : m.gone with
  | true => exact read_gone n w h hg
  | false =>
    rw [if_neg (by decide)]
    by_cases hn : n < 0 ∨ (m.old.length : Int) ≤ n
    · rw [if_pos hn]
      exact read_out n w h hg hn
    · rw [if_neg hn]
      cases hs : lastW m.op n.toNat with
      | none => exact read_last n w h hg (by omega) (by omega) hs
      | some s => exact read_open n s w h hg (by omega) (by omega) hs

set_option maxHeartbeats 400000 in
set_option maxRecDepth 20000 in
theorem read_nil (n : Int) (w : World) : Calls Tryz.prog 141 #[.pointer none, .int .i64 n] w fun e w' => e = .returned (.tuple #[.string ByteArray.empty, .int .i64 2]) ∧ w' = w := by
  go_enter Tryz.func141, Tryz.ntmps141
  go_wp2
  go_ret2
  exact ⟨rfl, rfl⟩

set_option maxHeartbeats 400000 in
theorem sectors_any (w : World) (h : DiskAt w d m c fb lb ov) :
    Calls Tryz.prog 50 #[.pointer (some ⟨d, 0, none⟩)] w fun e w' => e = .returned (.int .i64 (m.old.length : Int)) ∧ w' = w := by
  have h0 := h.cell0
  go_enter Tryz.func50, Tryz.ntmps50
  go_wp2
  go_ret
  exact ⟨rfl, rfl⟩
set_option maxHeartbeats 400000 in
theorem sectors_nil (w : World) : Calls Tryz.prog 50 #[.pointer none] w fun e w' => e = .returned (.int .i64 0) ∧ w' = w := by
  go_enter Tryz.func50, Tryz.ntmps50
  go_wp2
  go_ret
  exact ⟨rfl, rfl⟩
theorem ownsRow_form {w : World} {b : Nat} {e : TypeId} {size : Nat} {v : Value} {n : Nat} {xs : List Value} (h : w.ownsRow b e size v n xs) : ∃ a cap, v = .slice a n cap := by
  rcases h.2 with ⟨rfl, rfl⟩ | ⟨g, cap, cur, rfl, _⟩
  · exact ⟨_, _, rfl⟩
  · exact ⟨_, _, rfl⟩
end Go.Proofs.YtlmgmdnmghgkbaaGreatDoor.L3

/- What changes a disk: Write. -/
namespace Go.Proofs.YtlmgmdnmghgkbaaGreatDoor.L3
open Go.ChangeShapes Go.WideShapes Go.ChangeAt Go.RowKit Go.Maps

/-- a store into a map of sectors, as the walk meets it -/
theorem wp_store {ops : Array Oper} {rest : List Oper} {o : Oper} {a : Act} {Q : Exit → Act → World → Prop} {w : World} {b k : Nat} {f : Nat → Option ByteArray} {n : Int} {s : ByteArray}
    (hg : o.guard = none) (mo x v : Operand) (hop : o.op = Op.mapUpdate 101 mo x v) (hm : a.eval mo = .map (some b)) (hx : a.eval x = .int .i64 n) (hv : a.eval v = .agg #[.string s])
    (h : Sec w b k f) (h0 : 0 ≤ n) (h1 : n < 4096) (hs : s.size ≤ maxLen) (hk : k < maxLen)
    (hK : ∀ w', Sec w' b (k + 1) (put f n.toNat s) → w.grownBy w' (some b) → wpList Tryz.prog ops Q rest (a.put o.dst undef) w') :
    wpList Tryz.prog ops Q (o :: rest) a w := by
  refine wpList_plain hg fun K' hK' => ?_
  obtain ⟨w', hrun, r1, r2⟩ := h.store h0 h1 s hs hk
  unfold Oper.wp
  simp [execOp, hop, hm, hx, hv, hrun, Result.andThen]
  exact hK' _ _ (hK w' r1 r2)

/-- append of one element, which stands in a new block -/
theorem app_gen {ops : Array Oper} {rest : List Oper} {o : Oper} {a : Act} {Q : Exit → Act → World → Prop} {t e : TypeId} {z : Value} {size bytes : Nat} {B : Nat} {wr : World} {v : Value} {n : Nat} {xs news : List Value}
    (ht : Tryz.prog.underlying t = some (.slice e)) (hinfo : (Tryz.prog.info? e).map (fun i => (i.zero, i.size, i.bytes)) = some (some z, size, bytes)) (hzs : z.cells.size = size) (hsz : 0 < size)
    (hwant : Region.wanted o (yielded ops a.tmps) = true) (s x : Operand) (ho : o.op = .call { callee := .builtin .append, args := #[s, x], argTypes := #[t, t] })
    (hs : a.eval s = v) (hx : a.eval x = .slice (some ⟨wr.heap.size, 0, none⟩) 1 1) (hown : wr.ownsRow B e size v n xs) (hB : B ≤ wr.heap.size) (hnl : news.length = size) (h1 : ∀ u ∈ news, u.oneCell' = true) (hlen : (n + 1) * bytes ≤ 140737488355328) (hl2 : n + 1 ≤ 140737488355328)
    (h : ∀ a' cap' w', w'.ownsRow B e size (.slice a' (n + 1) cap') (n + 1) (xs ++ news) → wr.grownBy w' v.ownBlock → ((Value.slice a' (n + 1) cap').ownBlock = v.ownBlock ∨ ∃ g, (Value.slice a' (n + 1) cap').ownBlock = some g ∧ wr.heap.size ≤ g) → wpList Tryz.prog ops Q rest (a.put o.dst (.slice a' (n + 1) cap')) w') :
    wpList Tryz.prog ops Q (o :: rest) a (wr.alloc (.cells news.toArray e)) := by
  obtain ⟨i0, hi, hz0, hz1, hz2⟩ := info_parts hinfo
  obtain ⟨v', w', hr, ho', hg, _, hloc⟩ := run_append_own_at (P := Tryz.prog) (wr.alloc (.cells news.toArray e)) B t o.type e i0 z size bytes ht hi hz0 hz1 hz2 hzs hsz v n xs (World.ownsRow.alloc hown _) ⟨wr.heap.size, 0, none⟩ 1 1 news (by omega)
    (fun j u hj => by
      rw [Go.WideShapes.add_plain, Nat.zero_add]
      simpa using hj)
    h1 (by unfold maxLen; omega) hlen (by simp; omega)
  have hform : ∃ a' cap', v' = .slice a' (n + 1) cap' := by
    rcases ho'.2 with ⟨_, hn⟩ | ⟨g, cap, cur, e, _⟩
    · omega
    · exact ⟨_, _, e⟩
  obtain ⟨a', cap', rfl⟩ := hform
  refine BigFrame.wpList_want hwant fun K hK => ?_
  unfold Oper.wp execOp
  simp only [ho, resolve, invoke, builtin, Sem.run_bind, Sem.run_pure, Result.andThen_ok, List.map_toArray, List.map_cons, List.map_nil, hs, hx, hr]
  refine hK _ _ (h a' cap' w' ho' ⟨hg.os, hg.tape, hg.output, Nat.le_trans (by simp) hg.size, fun k hk hn => (hg.block k (by simp; omega) hn).trans (Below.heap_alloc _ _ _ hk)⟩ ?_)
  rcases hloc with h | h
  · exact .inl h
  · exact .inr ⟨_, h, by simp⟩

theorem info288 : (Tryz.prog.info? 288).map (fun i => (i.zero, i.size, i.bytes)) = some (some (.agg #[.int .i64 0, .string ByteArray.empty]), 2, 24) := by kernel_rfl

variable {d : Nat} {m : Dk} {c fb lb : Nat} {ov : Value}

theorem pw_here (hg : m.gone = false) : pw m = m.left := by unfold pw; rw [if_neg (by rw [hg]; decide)]
theorem pw_gone (hg : m.gone = true) : pw m = -2 := by unfold pw; rw [if_pos hg]

theorem spend_any (w : World) (h : DiskAt w d m c fb lb ov) (hg : m.gone = false) :
    Calls Tryz.prog 175 #[.pointer (some ⟨d, 0, none⟩)] w fun e w' => e = .returned (.tuple #[]) ∧ DiskAt w' d { m with left := spent m.left } c fb lb ov ∧ Moves [d] w w' := by
  have h1 := h.cell1
  rw [pw_here hg] at h1
  have hok : Ok { m with left := spent m.left } := ⟨h.ok.old, h.ok.op, spent_in h.ok.left, h.ok.many⟩
  by_cases hp : 0 < m.left
  · refine (spend_some d m.left w h1 (h.free 1) hp h.ok.left.2).mono ?_
    rintro e w' ⟨he, rfl⟩
    refine ⟨he, h.power _ _ ?_ rfl rfl hok, Moves.set _ _ _ _ (by simp)⟩
    show (if m.gone = true then (-2 : Int) else spent m.left) = m.left - 1
    rw [hg, spent, if_neg (by decide), if_pos hp]
  · refine (spend_none d m.left w h1 hp).mono ?_
    rintro e w' ⟨he, rfl⟩
    have e1 : spent m.left = m.left := by unfold spent; rw [if_neg hp]
    refine ⟨he, ?_, Moves.refl _ _⟩
    rw [e1]
    exact h

set_option maxHeartbeats 1000000 in
set_option maxRecDepth 20000 in
theorem write_gone (n : Int) (data : ByteArray) (w : World) (h : DiskAt w d m c fb lb ov) (hg : m.gone = true) :
    Calls Tryz.prog 130 #[.pointer (some ⟨d, 0, none⟩), .int .i64 n, .string data] w fun e w' => e = .returned (.int .i64 30) ∧ w' = w := by
  have h1 := h.cell1
  rw [pw_gone hg] at h1
  have H1 := hide h1
  clear h1
  go_enter Tryz.func130, Tryz.ntmps130
  go_wp2_with (go_at_call 173; refine (fails_gone _ _ (unhide H1)).mono ?_; rintro e w' ⟨rfl, rfl⟩)
  go_ret
  exact ⟨rfl, rfl⟩
set_option maxHeartbeats 1000000 in
set_option maxRecDepth 20000 in
theorem write_now (n : Int) (data : ByteArray) (w : World) (h : DiskAt w d m c fb lb ov) (hg : m.gone = false) (hl : m.left = 0) :
    Calls Tryz.prog 130 #[.pointer (some ⟨d, 0, none⟩), .int .i64 n, .string data] w fun e w' => e = .returned (.int .i64 30) ∧ w' = w.setCell ⟨d, 1, none⟩ (.int .i64 (-2)) := by
  have h1 := h.cell1
  rw [pw_here hg, hl] at h1
  have H1 := hide h1
  have H2 := hide (h.free 1)
  clear h1
  go_enter Tryz.func130, Tryz.ntmps130
  go_wp2_with (go_at_call 173; refine (fails_now _ _ (unhide H1) (unhide H2)).mono ?_; rintro e w' ⟨rfl, rfl⟩)
  go_ret
  exact ⟨rfl, rfl⟩
set_option maxHeartbeats 1000000 in
set_option maxRecDepth 20000 in
theorem write_out (n : Int) (data : ByteArray) (w : World) (h : DiskAt w d m c fb lb ov) (hg : m.gone = false) (hl : m.left ≠ 0) (hn : n < 0 ∨ (m.old.length : Int) ≤ n) :
    Calls Tryz.prog 130 #[.pointer (some ⟨d, 0, none⟩), .int .i64 n, .string data] w fun e w' => e = .returned (.int .i64 31) ∧ w' = w := by
  have h1 := h.cell1
  rw [pw_here hg] at h1
  have H1 := hide h1
  have hl2 : m.left ≠ -2 := by have := h.ok.left; omega
  have H2 := hide hl
  have H3 := hide hl2
  have H0 := hide h.cell0
  have HN := hide hn
  clear h1 hl hl2 hn
  go_enter Tryz.func130, Tryz.ntmps130
  go_wp2_with (first | (go_at_call 173; refine (fails_not _ _ _ (unhide H1) (unhide H3) (unhide H2)).mono ?_; rintro e w' ⟨rfl, rfl⟩) | (go_at_call 174; refine (has_no _ _ _ _ (unhide H0) (unhide HN)).mono ?_; rintro e w' ⟨rfl, rfl⟩))
  go_ret
  exact ⟨rfl, rfl⟩
set_option maxHeartbeats 1000000 in
set_option maxRecDepth 20000 in
theorem write_size (n : Int) (data : ByteArray) (w : World) (h : DiskAt w d m c fb lb ov) (hg : m.gone = false) (hl : m.left ≠ 0) (hn0 : 0 ≤ n) (hn1 : n < (m.old.length : Int)) (hs : data.size ≠ 1024) :
    Calls Tryz.prog 130 #[.pointer (some ⟨d, 0, none⟩), .int .i64 n, .string data] w fun e w' => e = .returned (.int .i64 32) ∧ w' = w := by
  have h1 := h.cell1
  rw [pw_here hg] at h1
  have H1 := hide h1
  have hl2 : m.left ≠ -2 := by have := h.ok.left; omega
  have H2 := hide hl
  have H3 := hide hl2
  have H0 := hide h.cell0
  have HN := hide hn0
  have HM := hide hn1
  have hs' : (data.size : Int) ≠ 1024 := by omega
  clear h1 hl hl2 hn0 hn1
  go_enter Tryz.func130, Tryz.ntmps130
  go_wp2_with (first | (go_at_call 173; refine (fails_not _ _ _ (unhide H1) (unhide H3) (unhide H2)).mono ?_; rintro e w' ⟨rfl, rfl⟩) | (go_at_call 174; refine (has_yes _ _ _ _ (unhide H0) (unhide HN) (unhide HM)).mono ?_; rintro e w' ⟨rfl, rfl⟩))
  go_ret
  exact ⟨rfl, rfl⟩
end Go.Proofs.YtlmgmdnmghgkbaaGreatDoor.L3

/- Write, where it is done; and Write in any case. -/
namespace Go.Proofs.YtlmgmdnmghgkbaaGreatDoor.L3
open Go.ChangeShapes Go.WideShapes Go.ChangeAt Go.RowKit Go.Maps

variable {d : Nat} {m : Dk} {c fb lb : Nat} {ov : Value}

theorem lastW_put (op : List (Nat × ByteArray)) (n : Nat) (s : ByteArray) (L : Nat → Option ByteArray) (i : Nat) (h : L i = lastW op i) : put L n s i = lastW (op ++ [(n, s)]) i := by
  rw [lastW_snoc]
  unfold put
  by_cases e : i = n
  · subst e; simp
  · rw [if_neg e, if_neg (fun e' => e e'.symm)]
    exact h

/-- what a write has left in memory -/
theorem DiskAt.written {w w3 w5 : World} {n : Nat} {s : ByteArray} {L : Nat → Option ByteArray} {ov' : Value} (h : DiskAt w d m c fb lb ov) (hn : n < m.old.length) (hs : s.size = 1024)
    (hL3 : Sec w3 lb (m.op.length + 1) (put L n s)) (hL : ∀ i, i < m.old.length → L i = lastW m.op i) (hg3 : w.grownBy w3 (some lb))
    (hown : w5.ownsRow 0 288 2 ov' (m.op.length + 1) (opCells (m.op ++ [(n, s)]))) (hg5 : w3.grownBy w5 ov.ownBlock) (hloc : ov'.ownBlock = ov.ownBlock ∨ ∃ g, ov'.ownBlock = some g ∧ w3.heap.size ≤ g) :
    DiskAt (w5.setCell ⟨d, 4, none⟩ ov') d { m with op := m.op ++ [(n, s)] } (c + 1) fb lb ov' ∧ Moves (fpOf d fb lb ov) w (w5.setCell ⟨d, 4, none⟩ ov') ∧ ∀ x ∈ fpOf d fb lb ov', x ∈ fpOf d fb lb ov ∨ w.heap.size ≤ x := by
  have hm3 : Moves (fpOf d fb lb ov) w w3 := Moves.of_grown hg3 (fun k hk => by cases hk; simp [fpOf])
  have hm5 : Moves (fpOf d fb lb ov) w3 w5 := Moves.of_grown hg5 (fun k hk => by simp [fpOf, hk])
  have hm6 : Moves (fpOf d fb lb ov) w5 (w5.setCell ⟨d, 4, none⟩ ov') := Moves.set _ _ _ _ (by simp [fpOf])
  have hd3 : w3.heap[d]? = w.heap[d]? := hg3.block d h.dlt (fun e => h.dl (Option.some.inj e))
  have hd5 : w5.heap[d]? = w.heap[d]? := (hg5.block d (Nat.lt_of_lt_of_le h.dlt hg3.size) (fun e => h.nd e.symm)).trans hd3
  obtain ⟨F, nf, h1, r1, r2⟩ := h.fl
  have hf3 : w3.heap[fb]? = w.heap[fb]? := hg3.block fb h1.lt (fun e => h.ne (Option.some.inj e))
  have hf5 : w5.heap[fb]? = w.heap[fb]? := (hg5.block fb (Nat.lt_of_lt_of_le h1.lt hg3.size) (fun e => h.of e.symm)).trans hf3
  have hl5 : w5.heap[lb]? = w3.heap[lb]? := hg5.block lb hL3.lt (fun e => h.ol e.symm)
  have hnd : ov'.ownBlock ≠ some d := by
    rcases hloc with e | ⟨g, e, hg⟩
    · rw [e]; exact h.nd
    · rw [e]
      have := h.dlt
      have := hg3.size
      simp
      omega
  refine ⟨⟨?_, ⟨F, nf, h1.same ((Below.heap_setCell _ _ _ _ (by have := h.df; simp; omega)).trans hf5), ?_, r2⟩, ⟨put L n s, ?_, ?_⟩, ?_, h.ne, hnd, ?_⟩, (hm3.then hm5).then hm6, ?_⟩
  · have hb := hd5.trans h.blk
    simp [World.setCell, Array.getElem?_modify, hb]
    rfl
  · show nf + (m.op ++ [(n, s)]).length ≤ c + 1
    rw [List.length_append]
    simp
    omega
  · show Sec _ lb (m.op ++ [(n, s)]).length _
    rw [List.length_append]
    exact hL3.same ((Below.heap_setCell _ _ _ _ (by have := h.dl; simp; omega)).trans hl5)
  · intro i hi
    exact lastW_put _ _ _ _ _ (hL i hi)
  · show World.ownsRow _ 0 288 2 ov' (m.op ++ [(n, s)]).length _
    rw [List.length_append]
    exact ownsRow_same hown (fun g hg => Below.heap_setCell _ _ _ _ (by intro e; exact hnd (by rw [hg, e])))
  · refine ⟨h.ok.old, ?_, h.ok.left, h.ok.many⟩
    intro p hp
    rcases List.mem_append.1 hp with hp | hp
    · exact h.ok.op p hp
    · simp at hp
      subst hp
      exact ⟨hn, hs⟩
  · intro x hx
    simp [fpOf] at hx ⊢
    rcases hx with rfl | rfl | rfl | hx
    · simp
    · simp
    · simp
    · rcases hloc with e | ⟨g, e, hg⟩
      · rw [e] at hx
        simp [hx]
      · rw [e] at hx
        cases hx
        exact .inr (Nat.le_trans hg3.size hg)

theorem grown_frozen {w w' : World} {r : Option Nat} (hg : w.grownBy w' r) {d : Nat} (hlt : d < w.heap.size) (hne : some d ≠ r) (i : Nat) : w'.frozen? ⟨d, i, none⟩ = w.frozen? ⟨d, i, none⟩ :=
  World.frozen?_of_block (hg.block d hlt hne)

set_option maxHeartbeats 2000000 in
set_option maxRecDepth 20000 in
theorem write_ok (n : Int) (data : ByteArray) (w : World) (h : DiskAt w d m c fb lb ov) (hg : m.gone = false) (hl : m.left ≠ 0) (hn0 : 0 ≤ n) (hn1 : n < (m.old.length : Int)) (hs : data.size = 1024) (hc : c ≤ 1000000) :
    Calls Tryz.prog 130 #[.pointer (some ⟨d, 0, none⟩), .int .i64 n, .string data] w fun e w' => e = .returned (.int .i64 0) ∧
      ∃ ov', DiskAt w' d { m with left := spent m.left, op := m.op ++ [(n.toNat, data)] } (c + 1) fb lb ov' ∧ Moves (fpOf d fb lb ov) w w' ∧ ∀ x ∈ fpOf d fb lb ov', x ∈ fpOf d fb lb ov ∨ w.heap.size ≤ x := by
  have h1 := h.cell1
  rw [pw_here hg] at h1
  have H1 := hide h1
  have hl2 : m.left ≠ -2 := by have := h.ok.left; omega
  have H2 := hide hl
  have H3 := hide hl2
  have H0 := hide h.cell0
  have HN := hide hn0
  have HM := hide hn1
  have hs' : (data.size : Int) = 1024 := by omega
  have HZ : Hid (data.size ≤ 1000000) := by have := hs; show data.size ≤ 1000000; omega
  have HZ2 : Hid (data.size ≤ maxLen) := by have := hs; show data.size ≤ maxLen; unfold maxLen; omega
  have hmany := h.ok.many
  have H4 : Hid (n < 4096) := by show n < 4096; omega
  have hopl : m.op.length ≤ 1000000 := by obtain ⟨F, nf, _, r, _⟩ := h.fl; omega
  have HO := hide hopl
  have HS := hide hs
  have HA : Hid (DiskAt w d m c fb lb ov) := h
  have hnn : n.toNat < m.old.length := by omega
  have HNN := hide hnn
  have en : ((n.toNat : Nat) : Int) = n := Int.toNat_of_nonneg hn0
  have EN := hide en
  have HG := hide hg
  clear h1 hl hl2 hn0 hn1 hs hmany hopl h hnn en hg
  go_enter Tryz.func130, Tryz.ntmps130
  go_wp2_with (first
    | (go_at_call 173; refine (fails_not _ _ _ (unhide H1) (unhide H3) (unhide H2)).mono ?_; rintro e w' ⟨rfl, rfl⟩)
    | (go_at_call 174; refine (has_yes _ _ _ _ (unhide H0) (unhide HN) (unhide HM)).mono ?_; rintro e w' ⟨rfl, rfl⟩)
    | (go_at_call 175; refine (spend_any _ (unhide HA) (unhide HG)).mono ?_; rintro e w1 ⟨rfl, hA1, hm1⟩; have HA1 := hide hA1; have HM1 := hide hm1; clear hA1 hm1)
    | (go_at_call 176; refine (clone_any _ _ (unhide HZ)).mono ?_; rintro e w2 ⟨rfl, hb2⟩; have HA2 := hide ((unhide HA1).grow hb2); have h23 := (unhide HA2).cell3; have HB2 := hide hb2; clear hb2)
    | (at_mapUpdate; obtain ⟨L, hL, hLw⟩ := (unhide HA2).la; refine wp_store rfl _ _ _ rfl rfl rfl rfl hL (unhide HN) (unhide H4) (unhide HZ2) (by have := unhide HO; unfold maxLen; show m.op.length < _; omega) ?_; intro w3 hL3 hg3; have h34 := hg3.cell (unhide HA2).cell4 (by have := (unhide HA2).dl; simp; exact this); have HL3 := hide hL3; have HG3 := hide hg3; have HLW := hide hLw; clear hL hLw hL3 hg3)
    | (at_builtin; refine app_gen (v := ov) (news := [.int .i64 n, .string data]) Tryz.underlying182 info288 rfl (by decide) rfl _ _ rfl rfl rfl ((unhide HA2).op.kept (unhide HG3) (.inr (unhide HA2).ol)) (Nat.zero_le _) rfl (by intro u hu; simp at hu; rcases hu with rfl | rfl <;> rfl) (by have := unhide HO; show (m.op.length + 1) * 24 ≤ _; omega) (by have := unhide HO; show m.op.length + 1 ≤ _; omega) ?_; intro a5 cap5 w5 hown5 hg5 hloc; have HX := hide (And.intro hown5 (And.intro hg5 hloc)); have hc5 := hg5.cell h34 (by have := (unhide HA2).nd; exact fun e => this e.symm); have hfr : w5.frozen? ⟨d, 4, none⟩ = false := ((grown_frozen hg5 (Nat.lt_of_lt_of_le (unhide HA2).dlt (unhide HG3).size) (by have := (unhide HA2).nd; exact fun e => this e.symm) 4).trans (grown_frozen (unhide HG3) (unhide HA2).dlt (by have := (unhide HA2).dl; simp; exact this) 4)).trans ((unhide HA2).free 4); clear hown5 hg5 hloc)
    | go_in)
  go_ret
  obtain ⟨hown5, hg5, hloc⟩ := unhide HX
  have hown6 : w5.ownsRow 0 288 2 (.slice a5 (m.op.length + 1) cap5) (m.op.length + 1) (opCells (m.op ++ [(n.toNat, data)])) := by
    rw [opCells_snoc]
    show w5.ownsRow 0 288 2 (.slice a5 (m.op.length + 1) cap5) (m.op.length + 1) (opCells m.op ++ [.int .i64 ((n.toNat : Nat) : Int), .string data])
    rw [unhide EN]
    exact hown5
  obtain ⟨r1, r2, r3⟩ := (unhide HA2).written (unhide HNN) (unhide HS) (unhide HL3) (unhide HLW) (unhide HG3) hown6 hg5 hloc
  have hm1 := unhide HM1
  have hb2 := unhide HB2
  refine ⟨rfl, _, r1, ((hm1.mono (fun x hx => .inl (by simp at hx; simp [fpOf, hx]))).then (Moves.of_below _ hb2)).then r2, fun x hx => ?_⟩
  rcases r3 x hx with h | h
  · exact .inl h
  · have := hm1.size
    have := hb2.size
    exact .inr (by omega)

/-- a disk in memory, with the blocks that are its own -/
def IsDisk (w : World) (d : Nat) (m : Dk) (c : Nat) (fp : List Nat) : Prop := ∃ fb lb ov, DiskAt w d m c fb lb ov ∧ fp = fpOf d fb lb ov
/-- what an operation does to a disk: it is this one now, and nothing else has turned -/
def Turned (w w' : World) (d : Nat) (m' : Dk) (c : Nat) (fp : List Nat) : Prop := ∃ fp', IsDisk w' d m' c fp' ∧ Moves fp w w' ∧ ∀ x ∈ fp', x ∈ fp ∨ w.heap.size ≤ x

theorem IsDisk.mono {w : World} {fp : List Nat} (h : IsDisk w d m c fp) {c' : Nat} (hc : c ≤ c') : IsDisk w d m c' fp := by
  obtain ⟨fb, lb, ov, h, e⟩ := h
  obtain ⟨F, nf, h1, r1, r2⟩ := h.fl
  exact ⟨fb, lb, ov, ⟨h.blk, ⟨F, nf, h1, by omega, r2⟩, h.la, h.op, h.ne, h.nd, h.ok⟩, e⟩
theorem IsDisk.ok {w : World} {fp : List Nat} (h : IsDisk w d m c fp) : Ok m := by
  obtain ⟨fb, lb, ov, h, e⟩ := h
  exact h.ok
theorem IsDisk.lt {w : World} {fp : List Nat} (h : IsDisk w d m c fp) : ∀ x ∈ fp, x < w.heap.size := by
  obtain ⟨fb, lb, ov, h, rfl⟩ := h
  exact h.lt
theorem IsDisk.keep {w w' : World} {fp fq : List Nat} (h : IsDisk w d m c fp) (hm : Moves fq w w') (hd : ∀ x ∈ fp, x ∉ fq) : IsDisk w' d m c fp := by
  obtain ⟨fb, lb, ov, h, rfl⟩ := h
  exact ⟨fb, lb, ov, h.keep hm hd, rfl⟩
theorem IsDisk.grow {w w' : World} {fp : List Nat} (h : IsDisk w d m c fp) (hm : Below w.heap.size w w') : IsDisk w' d m c fp :=
  h.keep (Moves.of_below [] hm) (fun _ _ => List.not_mem_nil)
theorem IsDisk.stays {w : World} {fp : List Nat} (h : IsDisk w d m c fp) : Turned w w d m c fp := ⟨fp, h, Moves.refl _ _, fun _ hx => .inl hx⟩

theorem write_any (n : Int) (data : ByteArray) (fp : List Nat) (w : World) (h0 : IsDisk w d m c fp) (hc : c ≤ 1000000) :
    Calls Tryz.prog 130 #[.pointer (some ⟨d, 0, none⟩), .int .i64 n, .string data] w fun e w' => e = .returned (.int .i64 (writeE m n data)) ∧ Turned w w' d (writeM m n data) (c + 1) fp := by
  have h0' := (h0.mono (Nat.le_succ c)).stays
  obtain ⟨fb, lb, ov, h, rfl⟩ := h0
  unfold writeE writeM
  cases hg : m.gone with
  | true =>
    refine (write_gone n data w h hg).mono ?_
    rintro e w' ⟨rfl, rfl⟩
    exact ⟨rfl, h0'⟩
  | false =>
    simp only [Bool.false_eq_true, if_false]
    by_cases hl : m.left = 0
    · rw [if_pos hl, if_pos hl]
      refine (write_now n data w h hg hl).mono ?_
      rintro e w' ⟨rfl, rfl⟩
      refine ⟨rfl, _, (IsDisk.mono ⟨fb, lb, ov, h.power { m with gone := true } (-2) rfl rfl rfl ⟨h.ok.old, h.ok.op, h.ok.left, h.ok.many⟩, rfl⟩ (Nat.le_succ c)), Moves.set _ _ _ _ (by simp [fpOf]), fun _ hx => .inl hx⟩
    · rw [if_neg hl, if_neg hl]
      by_cases hn : n < 0 ∨ (m.old.length : Int) ≤ n
      · rw [if_pos hn, if_pos hn]
        refine (write_out n data w h hg hl hn).mono ?_
        rintro e w' ⟨rfl, rfl⟩
        exact ⟨rfl, h0'⟩
      · rw [if_neg hn, if_neg hn]
        by_cases hs : data.size = 1024
        · rw [if_neg (by omega), if_neg (by omega)]
          refine (write_ok n data w h hg hl (by omega) (by omega) hs hc).mono ?_
          rintro e w' ⟨rfl, ov', r1, r2, r3⟩
          rw [hg] at r1
          exact ⟨rfl, _, ⟨fb, lb, ov', r1, rfl⟩, r2, r3⟩
        · rw [if_pos hs, if_pos hs]
          refine (write_size n data w h hg hl (by omega) (by omega) hs).mono ?_
          rintro e w' ⟨rfl, rfl⟩
          exact ⟨rfl, h0'⟩
set_option maxHeartbeats 400000 in
theorem write_nil (n : Int) (data : ByteArray) (w : World) : Calls Tryz.prog 130 #[.pointer none, .int .i64 n, .string data] w fun e w' => e = .returned (.int .i64 2) ∧ w' = w := by
  go_enter Tryz.func130, Tryz.ntmps130
  go_wp2
  go_ret
  exact ⟨rfl, rfl⟩
end Go.Proofs.YtlmgmdnmghgkbaaGreatDoor.L3

/- What changes a disk: Flush, Power. -/
namespace Go.Proofs.YtlmgmdnmghgkbaaGreatDoor.L3
open Go.ChangeShapes Go.WideShapes Go.ChangeAt Go.RowKit Go.Maps

variable {d : Nat} {m : Dk} {c fb lb : Nat} {ov : Value}

/-! Power -/
set_option maxHeartbeats 1000000 in
theorem power_gone (x : Int) (w : World) (h : DiskAt w d m c fb lb ov) (hg : m.gone = true) :
    Calls Tryz.prog 40 #[.pointer (some ⟨d, 0, none⟩), .int .i64 x] w fun e w' => e = .returned (.tuple #[]) ∧ w' = w := by
  have h1 := h.cell1
  rw [pw_gone hg] at h1
  go_enter Tryz.func40, Tryz.ntmps40
  go_wp2
  refine bodyPost_ret (results_none rfl _ _ _) rfl ?_
  exact ⟨rfl, rfl⟩
set_option maxHeartbeats 1000000 in
set_option maxRecDepth 20000 in
theorem power_here (x : Int) (w : World) (h : DiskAt w d m c fb lb ov) (hg : m.gone = false) :
    Calls Tryz.prog 40 #[.pointer (some ⟨d, 0, none⟩), .int .i64 x] w fun e w' => e = .returned (.tuple #[]) ∧ w' = w.setCell ⟨d, 1, none⟩ (.int .i64 (max x (-1))) := by
  have h1 := h.cell1
  rw [pw_here hg] at h1
  have hl2 : m.left ≠ -2 := by have := h.ok.left; omega
  have hf := h.free 1
  go_enter Tryz.func40, Tryz.ntmps40
  go_wp2
  go_end0
  exact ⟨rfl, rfl⟩
theorem power_any (x : Int) (hx : x ≤ 9223372036854775807) (fp : List Nat) (w : World) (h0 : IsDisk w d m c fp) :
    Calls Tryz.prog 40 #[.pointer (some ⟨d, 0, none⟩), .int .i64 x] w fun e w' => e = .returned (.tuple #[]) ∧ Turned w w' d (powerM m x) c fp := by
  have h0' := h0.stays
  obtain ⟨fb, lb, ov, h, rfl⟩ := h0
  have hok := ok_power h.ok x hx
  unfold powerM at hok ⊢
  cases hg : m.gone with
  | true =>
    refine (power_gone x w h hg).mono ?_
    rintro e w' ⟨rfl, rfl⟩
    exact ⟨rfl, h0'⟩
  | false =>
    rw [hg] at hok
    simp only [Bool.false_eq_true, if_false] at hok ⊢
    refine (power_here x w h hg).mono ?_
    rintro e w' ⟨rfl, rfl⟩
    exact ⟨rfl, _, ⟨fb, lb, ov, h.power { m with left := max x (-1), gone := false } (max x (-1)) rfl rfl rfl hok, rfl⟩, Moves.set _ _ _ _ (by simp [fpOf]), fun _ hx => .inl hx⟩
set_option maxHeartbeats 400000 in
theorem power_nil (x : Int) (w : World) : Calls Tryz.prog 40 #[.pointer none, .int .i64 x] w fun e w' => e = .returned (.tuple #[]) ∧ w' = w := by
  go_enter Tryz.func40, Tryz.ntmps40
  go_wp2
  refine bodyPost_ret (results_none rfl _ _ _) rfl ?_
  exact ⟨rfl, rfl⟩
end Go.Proofs.YtlmgmdnmghgkbaaGreatDoor.L3

/- New disks: New, and the parts of Copy and Crash. -/
namespace Go.Proofs.YtlmgmdnmghgkbaaGreatDoor.L3
open Go.ChangeShapes Go.WideShapes Go.ChangeAt Go.RowKit Go.Maps

variable {d : Nat} {m : Dk} {c fb lb : Nat} {ov : Value}

def madeW (w : World) (n : Int) (fb : Nat) : World := (w.alloc (.map #[] 0)).alloc (.cells #[.int .i64 n, .int .i64 (-1), .map (some fb), .map (some w.heap.size), .slice none 0 0] 184)
set_option maxHeartbeats 1000000 in
theorem started_run (n : Int) (fb : Nat) (w : World) :
    Calls Tryz.prog 48 #[.int .i64 n, .map (some fb)] w fun e w' => e = .returned (.pointer (some ⟨w.heap.size + 1, 0, none⟩)) ∧ w' = madeW w n fb := by
  have hmm := @run_makeMap Tryz.prog
  go_enter Tryz.func48, Tryz.ntmps48
  go_wp2
  go_ret
  exact ⟨rfl, rfl⟩
theorem madeW_below (w : World) (n : Int) (fb : Nat) : Below w.heap.size w (madeW w n fb) := ((Below.refl _ _).alloc (Nat.le_refl _) _).alloc (by simp) _
theorem madeW_disk (w : World) (old : List ByteArray) (fb nf : Nat) (F : Nat → Option ByteArray) (h : Sec w fb nf F) (hF : ∀ i, i < old.length → (F i).getD zeros = old.getD i ByteArray.empty)
    (hok : Ok ⟨old, [], -1, false⟩) (hc : nf ≤ c) : DiskAt (madeW w (old.length : Int) fb) (w.heap.size + 1) ⟨old, [], -1, false⟩ c fb w.heap.size (.slice none 0 0) := by
  have hlt := h.lt
  refine ⟨?_, ⟨F, nf, h.same ((madeW_below _ _ _).block _ hlt), hc, hF⟩, ⟨fun _ => none, ?_, fun i _ => rfl⟩, World.ownsRow_nil _ _ _ _, by omega, by simp [Value.ownBlock], hok⟩
  · unfold madeW
    show ((w.heap.push _).push _)[w.heap.size + 1]? = _
    rw [Array.getElem?_push, if_pos (by simp)]
    rfl
  · refine (Sec.made w).same ?_
    unfold madeW
    exact Below.heap_alloc _ _ _ (by simp)
theorem started_any (old : List ByteArray) (fb nf : Nat) (F : Nat → Option ByteArray) (w : World) (h : Sec w fb nf F) (hF : ∀ i, i < old.length → (F i).getD zeros = old.getD i ByteArray.empty)
    (hok : Ok ⟨old, [], -1, false⟩) (hc : nf ≤ c) :
    Calls Tryz.prog 48 #[.int .i64 (old.length : Int), .map (some fb)] w fun e w' => e = .returned (.pointer (some ⟨w.heap.size + 1, 0, none⟩)) ∧ DiskAt w' (w.heap.size + 1) ⟨old, [], -1, false⟩ c fb w.heap.size (.slice none 0 0) ∧ Below w.heap.size w w' := by
  refine (started_run _ fb w).mono ?_
  rintro e w' ⟨rfl, rfl⟩
  exact ⟨rfl, madeW_disk w old fb nf F h hF hok hc, madeW_below _ _ _⟩

/-- a new disk -/
def newM (n : Nat) : Dk := ⟨List.replicate n zeros, [], -1, false⟩
theorem getD_rep (n i : Nat) (h : i < n) (s z : ByteArray) : (List.replicate n s).getD i z = s := by
  rw [List.getD_eq_getElem?_getD, List.getElem?_replicate, if_pos h]
  rfl
theorem newM_ok (n : Nat) (h : n ≤ 4096) : Ok (newM n) := by
  refine ⟨?_, (fun p hp => absurd hp List.not_mem_nil), (by show (-1 : Int) ≤ -1 ∧ (-1 : Int) ≤ 9223372036854775807; omega), ?_⟩
  · intro i hi
    have hi' : i < n := by simpa [newM] using hi
    show ((List.replicate n zeros).getD i ByteArray.empty).size = 1024
    rw [getD_rep _ _ hi']
    exact zeros_size
  · show (List.replicate n zeros).length ≤ 4096
    rw [List.length_replicate]
    exact h

set_option maxHeartbeats 1000000 in
set_option maxRecDepth 20000 in
theorem new_bad (n : Int) (w : World) (h : n < 1 ∨ 4096 < n) : Calls Tryz.prog 14 #[.int .i64 n] w fun e w' => e = .returned (.tuple #[.pointer none, .int .i64 1]) ∧ w' = w := by
  by_cases h1 : n < 1
  · go_enter Tryz.func14, Tryz.ntmps14
    go_wp2
    go_ret2
    exact ⟨rfl, rfl⟩
  · have h2 : 4096 < n := by omega
    go_enter Tryz.func14, Tryz.ntmps14
    go_wp2
    go_ret2
    exact ⟨rfl, rfl⟩
set_option maxHeartbeats 1000000 in
set_option maxRecDepth 20000 in
theorem new_any (n : Int) (w : World) (h1 : 1 ≤ n) (h2 : n ≤ 4096) : Calls Tryz.prog 14 #[.int .i64 n] w fun e w' => ∃ d fp, e = .returned (.tuple #[.pointer (some ⟨d, 0, none⟩), .int .i64 0]) ∧ IsDisk w' d (newM n.toNat) 0 fp ∧ Below w.heap.size w w' ∧ (∀ x ∈ fp, w.heap.size ≤ x) := by
  have h3 : ¬ n < 1 := by omega
  have h4 : ¬ 4096 < n := by omega
  have hmm := @run_makeMap Tryz.prog
  have hst := started_any (c := 0) (List.replicate n.toNat zeros) w.heap.size 0 (fun _ => none) (w.alloc (.map #[] 0)) (Sec.made w)
    (fun i hi => by rw [getD_rep _ _ (by simpa using hi)]; rfl) (newM_ok n.toNat (by omega)) (Nat.le_refl _)
  have en : ((List.replicate n.toNat zeros).length : Int) = n := by rw [List.length_replicate]; omega
  rw [en] at hst
  have HST := hide hst
  clear hst en h1 h2
  go_enter Tryz.func14, Tryz.ntmps14
  go_wp2_with (go_at_call 48; refine (unhide HST).mono ?_; rintro e w' ⟨rfl, hA, hb⟩)
  have es : (w.alloc (.map #[] 0)).heap.size = w.heap.size + 1 := by simp
  rw [es] at hA hb
  go_ret2
  refine ⟨_, _, rfl, ⟨_, _, _, hA, rfl⟩, ((Below.refl _ _).alloc (Nat.le_refl _) _).trans (hb.mono (by simp)), ?_⟩
  intro x hx
  simp [fpOf, Value.ownBlock] at hx
  omega

/-- append of what another slice has -/
theorem run_app_src {t e : TypeId} {z : Value} {size bytes : Nat} (ht : Tryz.prog.underlying t = some (.slice e)) (hinfo : (Tryz.prog.info? e).map (fun i => (i.zero, i.size, i.bytes)) = some (some z, size, bytes)) (hzs : z.cells.size = size) (hsz : 0 < size)
    (B : Nat) (ty : TypeId) (w : World) (v src : Value) (n k : Nat) (xs ys : List Value) (hown : w.ownsRow B e size v n xs) (hsrc : w.ownsRow 0 e size src k ys) (h1 : ∀ u ∈ ys, u.oneCell' = true)
    (hl2 : n + k ≤ 140737488355328) (hlen : (n + k) * bytes ≤ 140737488355328) (hB : B ≤ w.heap.size) :
    ∃ v' w', (Builtin.append_ #[t, t] ty #[v, src]).run Tryz.prog w = .ok v' w' ∧ w'.ownsRow B e size v' (n + k) (xs ++ ys) ∧ w.grownBy w' v.ownBlock ∧ (v'.ownBlock = v.ownBlock ∨ v'.ownBlock = some w.heap.size) := by
  obtain ⟨i0, hi, hz0, hz1, hz2⟩ := info_parts hinfo
  have hs := hsrc
  rcases hsrc.2 with ⟨rfl, rfl⟩ | ⟨g, cap, cur, rfl, _⟩
  · have hy : ys = [] := List.eq_nil_of_length_eq_zero (by simpa using hsrc.1)
    subst hy
    refine ⟨v, w, ?_, by rw [List.append_nil]; exact hown, ⟨rfl, rfl, rfl, Nat.le_refl _, fun _ _ _ => rfl⟩, .inl rfl⟩
    rcases hown.2 with ⟨rfl, hn⟩ | ⟨g, cp, cur, rfl, _, _, hnc, _⟩
    · simp [Builtin.append_, run_underlying ht, sizeOf, typeInfo, hi, Builtin.lenOf, Builtin.firstCells]
    · simp [Builtin.append_, run_underlying ht, sizeOf, typeInfo, hi, Builtin.lenOf, Builtin.firstCells, hnc, storeCells]
  · obtain ⟨v', w', hr, ho', hg, _, hloc⟩ := run_append_own_at (P := Tryz.prog) w B t ty e i0 z size bytes ht hi hz0 hz1 hz2 hzs hsz v n xs hown ⟨g, 0, none⟩ k cap ys hs.1 (hs.cells rfl) h1 (by unfold maxLen; omega) hlen hB
    exact ⟨v', w', hr, ho', hg, hloc⟩

theorem app_src {ops : Array Oper} {rest : List Oper} {o : Oper} {a : Act} {Q : Exit → Act → World → Prop} {t e : TypeId} {z : Value} {size bytes : Nat} {B : Nat} {w : World} {v src : Value} {n k : Nat} {xs ys : List Value}
    (ht : Tryz.prog.underlying t = some (.slice e)) (hinfo : (Tryz.prog.info? e).map (fun i => (i.zero, i.size, i.bytes)) = some (some z, size, bytes)) (hzs : z.cells.size = size) (hsz : 0 < size)
    (hwant : Region.wanted o (yielded ops a.tmps) = true) (s x : Operand) (ho : o.op = .call { callee := .builtin .append, args := #[s, x], argTypes := #[t, t] })
    (hs : a.eval s = v) (hx : a.eval x = src) (hown : w.ownsRow B e size v n xs) (hsrc : w.ownsRow 0 e size src k ys) (h1 : ∀ u ∈ ys, u.oneCell' = true)
    (hl2 : n + k ≤ 140737488355328) (hlen : (n + k) * bytes ≤ 140737488355328) (hB : B ≤ w.heap.size)
    (h : ∀ v' w', w'.ownsRow B e size v' (n + k) (xs ++ ys) → w.grownBy w' v.ownBlock → (v'.ownBlock = v.ownBlock ∨ v'.ownBlock = some w.heap.size) → wpList Tryz.prog ops Q rest (a.put o.dst v') w') :
    wpList Tryz.prog ops Q (o :: rest) a w := by
  obtain ⟨v', w', hr, r1, r2, r3⟩ := run_app_src ht hinfo hzs hsz B o.type w v src n k xs ys hown hsrc h1 hl2 hlen hB
  refine BigFrame.wpList_want hwant fun K hK => ?_
  unfold Oper.wp execOp
  simp only [ho, resolve, invoke, builtin, Sem.run_bind, Sem.run_pure, Result.andThen_ok, List.map_toArray, List.map_cons, List.map_nil, hs, hx, hr]
  exact hK _ _ (h v' w' r1 r2 r3)

theorem opCells_one (op : List (Nat × ByteArray)) : ∀ u ∈ opCells op, u.oneCell' = true := by
  intro u hu
  obtain ⟨p, _, hu⟩ := List.mem_flatMap.1 hu
  simp at hu
  rcases hu with rfl | rfl <;> rfl

/-- an empty row in new memory -/
theorem ownsRow_empty (w : World) (e : TypeId) (size : Nat) : (w.alloc (.cells #[] e)).ownsRow w.heap.size e size (.slice (some ⟨w.heap.size, 0, none⟩) 0 0) 0 [] :=
  World.ownsRow_made w #[] 0 (Nat.le_refl _) (Nat.zero_le _) (by simp)
theorem ownsRow_base {w : World} {B B' : Nat} {e : TypeId} {size : Nat} {v : Value} {n : Nat} {xs : List Value} (h : w.ownsRow B e size v n xs) (hB : B' ≤ B) : w.ownsRow B' e size v n xs := by
  refine ⟨h.1, ?_⟩
  rcases h.2 with h2 | ⟨g, cap, cur, e, hg, r⟩
  · exact .inl h2
  · exact .inr ⟨g, cap, cur, e, by omega, r⟩

end Go.Proofs.YtlmgmdnmghgkbaaGreatDoor.L3

/- Copy: another disk like this one. -/
namespace Go.Proofs.YtlmgmdnmghgkbaaGreatDoor.L3
open Go.ChangeShapes Go.WideShapes Go.ChangeAt Go.RowKit Go.Maps

variable {d : Nat} {m : Dk} {c fb lb : Nat} {ov : Value}

theorem DiskAt.copied {d2 fb2 lb2 : Nat} {w3 w4 w5 : World} {L : Nat → Option ByteArray} {ov' : Value} (hok : Ok m) (hcl : m.op.length ≤ c) (h : DiskAt w3 d2 ⟨m.old, [], m.left, m.gone⟩ (c - m.op.length) fb2 lb2 (.slice none 0 0))
    {N : Nat → Option ByteArray} (hL4 : Sec w4 lb2 (0 + m.op.length) (over N L)) (hN : ∀ i, i < m.old.length → N i = none) (hg4 : w3.grownBy w4 (some lb2)) (hL : ∀ i, i < m.old.length → L i = lastW m.op i)
    (hown : w5.ownsRow w4.heap.size 288 2 ov' m.op.length (opCells m.op)) (hb5 : Below w4.heap.size w4 w5) :
    DiskAt (w5.setCell ⟨d2, 4, none⟩ ov') d2 m c fb2 lb2 ov' ∧ Moves [d2, fb2, lb2] w3 (w5.setCell ⟨d2, 4, none⟩ ov') := by
  have hd4 : w4.heap[d2]? = w3.heap[d2]? := hg4.block d2 h.dlt (fun e => h.dl (Option.some.inj e))
  have hlt4 : d2 < w4.heap.size := Nat.lt_of_lt_of_le h.dlt hg4.size
  have hd5 : w5.heap[d2]? = w3.heap[d2]? := (hb5.block d2 hlt4).trans hd4
  obtain ⟨F, nf, h1, r1, r2⟩ := h.fl
  have hf5 : w5.heap[fb2]? = w3.heap[fb2]? := (hb5.block fb2 (Nat.lt_of_lt_of_le h1.lt hg4.size)).trans (hg4.block fb2 h1.lt (fun e => h.ne (Option.some.inj e)))
  have hl5 : w5.heap[lb2]? = w4.heap[lb2]? := hb5.block lb2 hL4.lt
  have hnd : ov'.ownBlock ≠ some d2 := by
    intro e
    have := (hown.lt d2 e).1
    omega
  refine ⟨⟨?_, ⟨F, nf, h1.same ((Below.heap_setCell _ _ _ _ (by have := h.df; simp; omega)).trans hf5), ?_, r2⟩, ⟨over N L, ?_, ?_⟩, ?_, h.ne, hnd, hok⟩, ?_⟩
  · have hb := hd5.trans h.blk
    simp [World.setCell, Array.getElem?_modify, hb]
    rfl
  · have r1' : nf + 0 ≤ c - m.op.length := r1
    omega
  · rw [Nat.zero_add] at hL4
    exact hL4.same ((Below.heap_setCell _ _ _ _ (by have := h.dl; simp; omega)).trans hl5)
  · intro i hi
    rw [← hL i hi]
    unfold over
    cases L i
    · exact hN i hi
    · rfl
  · exact ownsRow_same (ownsRow_base hown (Nat.zero_le _)) (fun g hg => Below.heap_setCell _ _ _ _ (by intro e; exact hnd (by rw [hg, e])))
  · exact ((Moves.of_grown hg4 (fun k hk => by cases hk; simp)).then (Moves.of_below _ hb5)).then (Moves.set _ _ _ _ (by simp))

end Go.Proofs.YtlmgmdnmghgkbaaGreatDoor.L3

/- Sectors in the program's map: the map is that of a list of states. -/
namespace Go.Proofs.YtlmgmdnmghgkbaaGreatDoor.L5
open Go.ChangeShapes Go.WideShapes Go.ChangeAt Go.RowKit Go.Maps

/-- a sector as a value -/
def secV : St → Value
  | some (h, g) => .agg #[.int .i64 (h : Int), .int .i64 g]
  | none => .agg #[.int .i64 0, .int .i64 0]
def datum (h : Nat) (g : Int) : DataW Unit := .agg [.lit (.int .i64 (h : Int)), .lit (.int .i64 g)]

/-- how a sector in a map reads -/
def secR : Value → Option (DataW Unit × List MemPlace)
  | .agg cs => match cs.toList with
    | [.int .i64 h, .int .i64 g] => if 0 ≤ h then some (datum h.toNat g, []) else none
    | _ => none
  | _ => none
theorem secR_mk (h : Nat) (g : Int) : secR (.agg #[.int .i64 (h : Int), .int .i64 g]) = some (datum h g, []) := by
  simp [secR]
theorem secR_inv {v : Value} {z : DataW Unit × List MemPlace} (hv : secR v = some z) : ∃ (h : Nat) (g : Int), v = .agg #[.int .i64 (h : Int), .int .i64 g] ∧ z = (datum h g, []) := by
  unfold secR at hv
  split at hv
  · rename_i cs
    split at hv
    · rename_i h g hs
      split at hv
      · rename_i h0
        cases hv
        refine ⟨h.toNat, g, ?_, rfl⟩
        rw [Int.toNat_of_nonneg h0, ← Array.toArray_toList (xs := cs), hs]
      · cases hv
    · cases hv
  · cases hv
theorem datum_inj {h h' : Nat} {g g' : Int} (e : datum h g = datum h' g') : h = h' ∧ g = g' := by
  unfold datum at e
  simp at e
  omega

theorem law3 : Keyed Tryz.prog 3 := int_keyed Tryz.underlying3
theorem zero56 (w : World) : (zeroValue 231).run Tryz.prog w = .ok (.agg #[.int .i64 0, .int .i64 0]) w := by kernel_rfl
theorem key3 {n : Int} (h : I64 n) : keyOf Tryz.prog 3 (.int .i64 n) = some (.int .i64 n) := keyOf_int_mk Tryz.underlying3 (WalkArith.wf_i64 (by unfold I64 at h; omega))
theorem key3_inv {v : Value} {kl : Lit} (h : keyOf Tryz.prog 3 v = some kl) : ∃ x : Int, v = .int .i64 x ∧ kl = .int .i64 x := by
  obtain ⟨x, e, e2, _⟩ := keyOf_int_inv Tryz.underlying3 h
  exact ⟨x, e, e2⟩

/-- the entries of a list of states -/
def ents : Nat → List St → List (Lit × DataW Unit)
  | _, [] => []
  | fr, none :: r => ents (fr + 1) r
  | fr, some (h, g) :: r => (.int .i64 (fr : Int), datum h g) :: ents (fr + 1) r
def mp (fr : Nat) (l : List St) : DataW Unit := .map (ents fr l)

theorem ents_mem : ∀ (l : List St) (fr : Nat) (p : Lit × DataW Unit), p ∈ ents fr l ↔ ∃ (i h : Nat) (g : Int), l[i]? = some (some (h, g)) ∧ p = (.int .i64 ((fr : Int) + (i : Int)), datum h g)
  | [], fr, p => by simp [ents]
  | s :: r, fr, p => by
    have ih := ents_mem r (fr + 1) p
    have e : ∀ i : Nat, ((fr + 1 : Nat) : Int) + (i : Int) = (fr : Int) + ((i + 1 : Nat) : Int) := fun i => by omega
    have step : (∃ (i h : Nat) (g : Int), (s :: r)[i]? = some (some (h, g)) ∧ p = (.int .i64 ((fr : Int) + (i : Int)), datum h g)) ↔ (∃ h g, s = some (h, g) ∧ p = (.int .i64 (fr : Int), datum h g)) ∨ p ∈ ents (fr + 1) r := by
      rw [ih]
      constructor
      · rintro ⟨i, h, g, hi, hp⟩
        cases i with
        | zero => simp at hi; exact .inl ⟨h, g, hi, by simpa using hp⟩
        | succ i => exact .inr ⟨i, h, g, by simpa using hi, by rw [e i]; exact hp⟩
      · rintro (⟨h, g, hs, hp⟩ | ⟨i, h, g, hi, hp⟩)
        · exact ⟨0, h, g, by simp [hs], by simpa using hp⟩
        · exact ⟨i + 1, h, g, by simpa using hi, by rw [e i] at hp; exact hp⟩
    rw [step]
    cases s with
    | none => simp [ents]
    | some x =>
      obtain ⟨h, g⟩ := x
      simp only [ents, List.mem_cons]
      constructor
      · rintro (hp | hp)
        · exact .inl ⟨h, g, rfl, hp⟩
        · exact .inr hp
      · rintro (⟨h', g', he, hp⟩ | hp)
        · cases he
          exact .inl hp
        · exact .inr hp
theorem ents_canon (l : List St) (fr : Nat) : Canon (mp fr l) := by
  refine ⟨_, rfl, ?_, fun p hp => ?_⟩
  · induction l generalizing fr with
    | nil => exact List.Pairwise.nil
    | cons s r ih =>
      cases s with
      | none => exact ih (fr + 1)
      | some x =>
        obtain ⟨h, g⟩ := x
        refine List.pairwise_cons.2 ⟨fun q hq => ?_, ih (fr + 1)⟩
        obtain ⟨i, h', g', _, rfl⟩ := (ents_mem r (fr + 1) q).1 hq
        simp [Lit.before]
        omega
  · obtain ⟨i, h, g, _, rfl⟩ := (ents_mem l fr p).1 hp
    trivial
theorem sec_mem {fr : Nat} {l : List St} {n : Int} {h : Nat} {g : Int} : sec fr l n = some (h, g) ↔ ∃ i : Nat, l[i]? = some (some (h, g)) ∧ n = (fr : Int) + (i : Int) := by
  constructor
  · intro hs
    have hi := sec_some hs
    refine ⟨ix fr n, by rw [sec_at hi, hs], ?_⟩
    have := ix_eq hi
    omega
  · rintro ⟨i, hi, rfl⟩
    obtain ⟨hl, he⟩ := List.getElem?_eq_some_iff.1 hi
    rw [sec_of hl, he]
theorem mp_has (fr : Nat) (l : List St) (n : Int) : Maps.has (mp fr l) (.int .i64 n) = (sec fr l n).isSome := by
  apply Bool.eq_iff_iff.2
  unfold mp
  rw [Maps.has_eq, List.any_eq_true]
  constructor
  · rintro ⟨p, hp, hk⟩
    obtain ⟨i, h, g, hi, rfl⟩ := (ents_mem l fr p).1 hp
    simp [Lit.sameKey] at hk
    rw [sec_mem.2 ⟨i, hi, hk.symm⟩]
    rfl
  · intro hs
    obtain ⟨x, hx⟩ := Option.isSome_iff_exists.1 hs
    obtain ⟨h, g⟩ := x
    obtain ⟨i, hi, rfl⟩ := sec_mem.1 hx
    exact ⟨_, (ents_mem l fr _).2 ⟨i, h, g, hi, rfl⟩, by simp [Lit.sameKey]⟩
theorem mp_has_key (fr : Nat) (l : List St) (kl : Lit) (h : Maps.has (mp fr l) kl = true) : ∃ (i h' : Nat) (g : Int), l[i]? = some (some (h', g)) ∧ kl = .int .i64 ((fr : Int) + (i : Int)) := by
  unfold mp at h
  rw [Maps.has_eq, List.any_eq_true] at h
  obtain ⟨p, hp, hk⟩ := h
  obtain ⟨i, h, g, hi, rfl⟩ := (ents_mem l fr p).1 hp
  exact ⟨i, h, g, hi, (WideAt.sameKey_eq hk).symm⟩
theorem mp_at {fr : Nat} {l : List St} {n : Int} {h : Nat} {g : Int} (hs : sec fr l n = some (h, g)) (z : DataW Unit) : (mp fr l).atKey (.int .i64 n) z = datum h g := by
  obtain ⟨es, he, hp, hk⟩ := ents_canon l fr
  obtain ⟨i, hi, rfl⟩ := sec_mem.1 hs
  exact WideAt.atKey_mem z trivial (Maps.apart_of_rising (by cases he; exact hp)) ((ents_mem l fr _).2 ⟨i, h, g, hi, rfl⟩)
theorem mp_size : ∀ (l : List St) (fr : Nat), Maps.size (mp fr l) + room l = l.length
  | [], _ => rfl
  | none :: r, fr => by
    have := mp_size r (fr + 1)
    unfold mp room at *
    simp only [Maps.size_eq, ents, List.countP_cons, List.length_cons, freeS] at *
    simp
    omega
  | some (h, g) :: r, fr => by
    have := mp_size r (fr + 1)
    unfold mp room at *
    simp only [Maps.size_eq, ents, List.countP_cons, List.length_cons, freeS] at *
    simp
    omega
theorem mp_put {fr : Nat} {l : List St} {n : Int} (hi : In fr l n) (h : Nat) (g : Int) (hc : Canon ((mp fr l).put (.int .i64 n) (datum h g))) : (mp fr l).put (.int .i64 n) (datum h g) = mp fr (upd fr l n (some (h, g))) := by
  have hm : IsMap (mp fr l) := ⟨_, rfl⟩
  refine Maps.ext hc (ents_canon _ _) (fun k => ?_) (fun k z hk => ?_)
  · by_cases e : k = .int .i64 n
    · subst e
      rw [has_put_same hm (k := .int .i64 n) trivial, mp_has, sec_upd hi]
      rfl
    · rw [has_put_other e]
      cases hh : Maps.has (mp fr l) k with
      | true =>
        obtain ⟨i, h', g', hl, rfl⟩ := mp_has_key _ _ _ hh
        rw [mp_has, sec_upd_ne (fun e' => e (by rw [e'])), ← mp_has, hh]
      | false =>
        cases hh2 : Maps.has (mp fr (upd fr l n (some (h, g)))) k with
        | false => rfl
        | true =>
          obtain ⟨i, h', g', hl, rfl⟩ := mp_has_key _ _ _ hh2
          rw [mp_has, sec_upd_ne (fun e' => e (by rw [e'])), ← mp_has, hh] at hh2
          exact hh2
  · by_cases e : k = .int .i64 n
    · subst e
      rw [atKey_put_same hm (k := .int .i64 n) trivial, mp_at (sec_upd hi)]
    · rw [has_put_other e] at hk
      rw [atKey_put_other e]
      obtain ⟨i, h', g', hl, rfl⟩ := mp_has_key _ _ _ hk
      have h1 : sec fr l ((fr : Int) + (i : Int)) = some (h', g') := sec_mem.2 ⟨i, hl, rfl⟩
      rw [mp_at h1, mp_at (by rw [sec_upd_ne (fun e' => e (by rw [e']))]; exact h1)]
theorem mp_del {fr : Nat} {l : List St} {n : Int} (hi : In fr l n) (hc : Canon ((mp fr l).del (.int .i64 n))) : (mp fr l).del (.int .i64 n) = mp fr (upd fr l n none) := by
  refine Maps.ext hc (ents_canon _ _) (fun k => ?_) (fun k z hk => ?_)
  · by_cases e : k = .int .i64 n
    · subst e
      rw [has_del_same, mp_has, sec_upd hi]
      rfl
    · rw [has_del_other e]
      cases hh : Maps.has (mp fr l) k with
      | true =>
        obtain ⟨i, h', g', hl, rfl⟩ := mp_has_key _ _ _ hh
        rw [mp_has, sec_upd_ne (fun e' => e (by rw [e'])), ← mp_has, hh]
      | false =>
        cases hh2 : Maps.has (mp fr (upd fr l n none)) k with
        | false => rfl
        | true =>
          obtain ⟨i, h', g', hl, rfl⟩ := mp_has_key _ _ _ hh2
          rw [mp_has, sec_upd_ne (fun e' => e (by rw [e'])), ← mp_has, hh] at hh2
          exact hh2
  · by_cases e : k = .int .i64 n
    · subst e
      rw [has_del_same] at hk
      cases hk
    · rw [has_del_other e] at hk
      rw [atKey_del_other e]
      obtain ⟨i, h', g', hl, rfl⟩ := mp_has_key _ _ _ hk
      have h1 : sec fr l ((fr : Int) + (i : Int)) = some (h', g') := sec_mem.2 ⟨i, hl, rfl⟩
      rw [mp_at h1, mp_at (by rw [sec_upd_ne (fun e' => e (by rw [e']))]; exact h1)]

/-- block b is the map of these sectors -/
def Sec (w : World) (b fr : Nat) (l : List St) : Prop := w.ownsMap Tryz.prog 3 secR b 4096 (mp fr l)

theorem ownsMap_tight {w : World} {b n m : Nat} {D : DataW Unit} (h : w.ownsMap Tryz.prog 3 secR b n D) (hm : Maps.size D ≤ m) : w.ownsMap Tryz.prog 3 secR b m D := by
  obtain ⟨es, clock, hb, F, hs, hD⟩ := h
  refine ⟨es, clock, hb, F, ?_, hD⟩
  rw [hD] at hm
  simpa [Maps.size, length_sorted] using hm

variable {w w' : World} {b fr : Nat} {l : List St}

theorem mp_size_le (hok : Ok fr l) : Maps.size (mp fr l) ≤ 4096 := by
  have := mp_size l fr
  have := hok.few
  omega
theorem Sec.lt (h : Sec w b fr l) : b < w.heap.size := World.ownsMap.lt h
theorem Sec.same (h : Sec w b fr l) (hb : w'.heap[b]? = w.heap[b]?) : Sec w' b fr l := by
  obtain ⟨es, clock, h1, r1⟩ := h
  exact ⟨es, clock, hb.trans h1, r1⟩
theorem Sec.kind (h : Sec w b fr l) : ∃ es clock, w.heap[b]? = some (.map es clock) := by
  obtain ⟨es, clock, h1, _⟩ := h
  exact ⟨es, clock, h1⟩
theorem ents_new (k fr : Nat) : ents fr (List.replicate k none) = [] := by
  induction k generalizing fr with
  | zero => rfl
  | succ k ih => rw [List.replicate_succ]; exact ih (fr + 1)
theorem Sec.made (w : World) (k : Nat) : Sec (w.alloc (.map #[] 0)) w.heap.size fr (List.replicate k none) := by
  unfold Sec mp
  rw [ents_new]
  exact (World.ownsMap_made w Tryz.prog 3 secR).mono (Nat.zero_le _)
theorem Sec.look_any (h : Sec w b fr l) {n : Int} (hn : I64 n) : (Instr.lookup 192 (.map (some b)) (.int .i64 n) true).run Tryz.prog w = .ok (.tuple #[secV (sec fr l n), .bool (sec fr l n).isSome]) w ∧
    (Instr.lookup 192 (.map (some b)) (.int .i64 n) false).run Tryz.prog w = .ok (secV (sec fr l n)) w := by
  have z0 : secR (.agg #[.int .i64 0, .int .i64 0]) = some (datum 0 0, []) := secR_mk 0 0
  obtain ⟨v, ps, hrun, hv⟩ := World.ownsMap.look_ok h law3 Tryz.underlying192 (zero56 w) z0 (key3 hn)
  obtain ⟨v2, ps2, hrun2, hv2⟩ := World.ownsMap.lookup h law3 Tryz.underlying192 (zero56 w) z0 (key3 hn)
  have key : ∀ v ps, secR v = some ((mp fr l).atKey (.int .i64 n) (datum 0 0), ps) → v = secV (sec fr l n) := by
    intro v ps hv
    obtain ⟨h', g', rfl, hd⟩ := secR_inv hv
    have hd := congrArg Prod.fst hd
    simp only at hd
    cases hs : sec fr l n with
    | none =>
      have hh : Maps.has (mp fr l) (.int .i64 n) = false := by rw [mp_has, hs]; rfl
      rw [Maps.atKey_of_not_has hh] at hd
      obtain ⟨e1, e2⟩ := datum_inj hd
      subst e1 e2
      rfl
    | some x =>
      obtain ⟨h2, g2⟩ := x
      rw [mp_at hs] at hd
      obtain ⟨e1, e2⟩ := datum_inj hd
      subst e1 e2
      rfl
  rw [hrun, hrun2, mp_has, key v ps hv, key v2 ps2 hv2]
  exact ⟨rfl, rfl⟩
theorem Sec.store (h : Sec w b fr l) (hok : Ok fr l) {n : Int} (hi : In fr l n) (c : Nat) (g : Int) :
    ∃ w', (Instr.mapUpdate 192 (.map (some b)) (.int .i64 n) (.agg #[.int .i64 (c : Int), .int .i64 g])).run Tryz.prog w = .ok () w' ∧ Sec w' b fr (upd fr l n (some (c, g))) ∧ w.grownBy w' (some b) := by
  have hn : I64 n := by have := hok.few; unfold In at hi; unfold I64; omega
  obtain ⟨w', hrun, hown, hg⟩ := World.ownsMap.update h law3 Tryz.underlying192 (by decide) (key3 hn) (secR_mk c g)
  rw [mp_put hi c g (hown.canon law3)] at hown
  refine ⟨w', hrun, ownsMap_tight hown ?_, hg⟩
  have h1 := mp_size (upd fr l n (some (c, g))) fr
  rw [upd_length] at h1
  have := hok.few
  omega
theorem Sec.del (h : Sec w b fr l) (hok : Ok fr l) {n : Int} (hi : In fr l n) (ty : TypeId) :
    ∃ w', (Builtin.delete_ #[192, 3] ty #[.map (some b), .int .i64 n]).run Tryz.prog w = .ok (.tuple #[]) w' ∧ Sec w' b fr (upd fr l n none) ∧ w.grownBy w' (some b) := by
  have hn : I64 n := by have := hok.few; unfold In at hi; unfold I64; omega
  obtain ⟨w', hrun, hown, hg⟩ := World.ownsMap.drop h law3 Tryz.underlying192 (key3 hn) ty
  rw [mp_del hi (hown.canon law3)] at hown
  exact ⟨w', hrun, hown, hg.grown⟩
end Go.Proofs.YtlmgmdnmghgkbaaGreatDoor.L5

/- An allocator of the program in memory: New, Count, Mark, Hold. -/
namespace Go.Proofs.YtlmgmdnmghgkbaaGreatDoor.L5
open Go.ChangeShapes Go.WideShapes Go.ChangeAt Go.RowKit Go.Maps

def genS : St → Int
  | some (_, g) => g
  | none => 0
theorem secV_eq (s : St) : secV s = .agg #[.int .i64 (cntS s : Int), .int .i64 (genS s)] := by
  cases s with
  | none => rfl
  | some x => rfl

/-- an allocator in memory -/
structure AllocAt (w : World) (d b fr : Nat) (l : List St) : Prop where
  blk : w.heap[d]? = some (.cells #[.int .i64 (fr : Int), .int .i64 ((fr : Int) + (l.length : Int)), .map (some b)] 194 (0, 0))
  map : Sec w b fr l
  ok : Ok fr l

variable {w w' : World} {d b fr : Nat} {l : List St}

theorem AllocAt.cell0 (h : AllocAt w d b fr l) : w.cell? ⟨d, 0, none⟩ = some (.int .i64 (fr : Int)) := by simp [World.cell?, h.blk]
theorem AllocAt.cell1 (h : AllocAt w d b fr l) : w.cell? ⟨d, 1, none⟩ = some (.int .i64 ((fr : Int) + (l.length : Int))) := by simp [World.cell?, h.blk]
theorem AllocAt.cell2 (h : AllocAt w d b fr l) : w.cell? ⟨d, 2, none⟩ = some (.map (some b)) := by simp [World.cell?, h.blk]
theorem AllocAt.dlt (h : AllocAt w d b fr l) : d < w.heap.size := (Array.getElem?_eq_some_iff.1 h.blk).1
theorem AllocAt.ne (h : AllocAt w d b fr l) : d ≠ b := by
  intro e
  obtain ⟨es, cl, h1⟩ := h.map.kind
  have h0 := h.blk
  rw [e, h1] at h0
  cases h0
theorem AllocAt.same (h : AllocAt w d b fr l) (hd : w'.heap[d]? = w.heap[d]?) (hb : w'.heap[b]? = w.heap[b]?) : AllocAt w' d b fr l :=
  ⟨hd.trans h.blk, h.map.same hb, h.ok⟩
theorem AllocAt.keep {fq : List Nat} (h : AllocAt w d b fr l) (hm : Moves fq w w') (hd : d ∉ fq) (hb : b ∉ fq) : AllocAt w' d b fr l :=
  h.same (hm.block d h.dlt hd) (hm.block b h.map.lt hb)
theorem AllocAt.grow (h : AllocAt w d b fr l) (hm : Below w.heap.size w w') : AllocAt w' d b fr l :=
  h.keep (Moves.of_below [] hm) List.not_mem_nil List.not_mem_nil
/-- the map has turned -/
theorem AllocAt.turn (h : AllocAt w d b fr l) {l' : List St} (hg : w.grownBy w' (some b)) (hs : Sec w' b fr l') (hl : l'.length = l.length) (hok : Ok fr l') : AllocAt w' d b fr l' := by
  refine ⟨?_, hs, hok⟩
  rw [hl]
  exact (hg.block d h.dlt (by have := h.ne; simp; exact this)).trans h.blk

/-! New -/
set_option maxHeartbeats 1000000 in
set_option maxRecDepth 20000 in
theorem new_bad (f t : Int) (w : World) (h : f < 0 ∨ t < f ∨ 4096 < t) :
    Calls Tryz.prog 51 #[.int .i64 f, .int .i64 t] w fun e w' => e = .returned (.tuple #[.pointer none, .int .i64 1]) ∧ w' = w := by
  by_cases h1 : f < 0
  · go_enter Tryz.func51, Tryz.ntmps51
    go_wp2
    go_ret2
    simp
  · by_cases h2 : t < f
    · go_enter Tryz.func51, Tryz.ntmps51
      go_wp2
      go_ret2
      simp
    · have h3 : 4096 < t := by omega
      clear h
      go_enter Tryz.func51, Tryz.ntmps51
      go_wp2
      go_ret2
      simp
set_option maxHeartbeats 1000000 in
set_option maxRecDepth 20000 in
theorem new_ok (f t : Nat) (w : World) (h1 : f ≤ t) (h2 : t ≤ 4096) :
    Calls Tryz.prog 51 #[.int .i64 (f : Int), .int .i64 (t : Int)] w fun e w' => ∃ d b, e = .returned (.tuple #[.pointer (some ⟨d, 0, none⟩), .int .i64 0]) ∧ AllocAt w' d b f (newM f t) ∧ Below w.heap.size w w' ∧ w.heap.size ≤ d ∧ w.heap.size ≤ b := by
  have g1 : ¬ (f : Int) < 0 := by omega
  have g2 : ¬ (t : Int) < (f : Int) := by omega
  have g3 : ¬ (4096 : Int) < (t : Int) := by omega
  have hmm := @run_makeMap Tryz.prog
  have H1 := hide h1
  have H2 := hide h2
  clear h1 h2
  go_enter Tryz.func51, Tryz.ntmps51
  go_wp2
  go_ret2
  have h1 := unhide H1
  have h2 := unhide H2
  refine ⟨w.heap.size + 1, rfl, w.heap.size, ⟨?_, ?_, Ok.newM h1 h2⟩, ?_, ?_, ?_⟩
  · have e : ((newM f t).length : Int) = (t : Int) - (f : Int) := by unfold newM; rw [List.length_replicate]; omega
    rw [e, show (f : Int) + ((t : Int) - (f : Int)) = (t : Int) by omega]
    show ((w.heap.push _).push _)[w.heap.size + 1]? = _
    rw [Array.getElem?_push, if_pos (by simp)]
  · exact (Sec.made w (t - f)).same (Below.heap_alloc _ _ _ (by simp))
  · exact ((Below.refl _ w).alloc (Nat.le_refl _) _).alloc (by simp) _
  · simp
  · exact Nat.le_refl _

/-! Count -/
theorem field56 (x y : Int) (w : World) : (Instr.field 231 (.agg #[.int .i64 x, .int .i64 y]) 0).run Tryz.prog w = .ok (.int .i64 x) w := by kernel_rfl
set_option maxHeartbeats 1000000 in
set_option maxRecDepth 20000 in
theorem count_any (n : Int) (hn : I64 n) (w : World) (h : AllocAt w d b fr l) :
    Calls Tryz.prog 82 #[.pointer (some ⟨d, 0, none⟩), .int .i64 n] w fun e w' => e = .returned (.int .i64 (cntS (sec fr l n) : Int)) ∧ w' = w := by
  have c2 := h.cell2
  have hl := (h.map.look_any hn).2
  rw [secV_eq] at hl
  generalize (cntS (sec fr l n) : Int) = c at *
  generalize genS (sec fr l n) = g at *
  have hf := field56 c g w
  clear h
  go_enter Tryz.func82, Tryz.ntmps82
  go_wp2
  go_ret
  exact ⟨rfl, rfl⟩
set_option maxHeartbeats 400000 in
theorem count_nil (n : Int) (w : World) : Calls Tryz.prog 82 #[.pointer none, .int .i64 n] w fun e w' => e = .returned (.int .i64 0) ∧ w' = w := by
  go_enter Tryz.func82, Tryz.ntmps82
  go_wp2
  go_ret
  exact ⟨rfl, rfl⟩

/-! Mark -/
set_option maxHeartbeats 400000 in
theorem mark_nil (n gen : Int) (w : World) : Calls Tryz.prog 172 #[.pointer none, .int .i64 n, .int .i64 gen] w fun e w' => e = .returned (.int .i64 2) ∧ w' = w := by
  go_enter Tryz.func172, Tryz.ntmps172
  go_wp2
  go_ret
  exact ⟨rfl, rfl⟩
set_option maxHeartbeats 1000000 in
set_option maxRecDepth 20000 in
theorem mark_out (n gen : Int) (w : World) (h : AllocAt w d b fr l) (hi : ¬ In fr l n) :
    Calls Tryz.prog 172 #[.pointer (some ⟨d, 0, none⟩), .int .i64 n, .int .i64 gen] w fun e w' => e = .returned (.int .i64 31) ∧ w' = w := by
  have c0 := h.cell0
  have c1 := h.cell1
  unfold In at hi
  clear h
  by_cases h1 : n < (fr : Int)
  · clear hi
    go_enter Tryz.func172, Tryz.ntmps172
    go_wp2
    go_ret
    simp
  · have h2 : (fr : Int) + (l.length : Int) ≤ n := by omega
    clear hi
    generalize (fr : Int) + (l.length : Int) = t at *
    go_enter Tryz.func172, Tryz.ntmps172
    go_wp2
    go_ret
    simp
set_option maxHeartbeats 1000000 in
set_option maxRecDepth 20000 in
theorem mark_there (n gen : Int) (w : World) (h : AllocAt w d b fr l) (hi : In fr l n) (hn : I64 n) (hs : (sec fr l n).isSome = true) :
    Calls Tryz.prog 172 #[.pointer (some ⟨d, 0, none⟩), .int .i64 n, .int .i64 gen] w fun e w' => e = .returned (.int .i64 103) ∧ Below w.heap.size w w' := by
  have c0 := h.cell0
  have c1 := h.cell1
  have c2 := h.cell2
  have hl := (h.map.look_any hn).1
  rw [secV_eq, hs] at hl
  have h1 : ¬ n < (fr : Int) := by unfold In at hi; omega
  have h2 : ¬ (fr : Int) + (l.length : Int) ≤ n := by unfold In at hi; omega
  clear h hi hn hs
  generalize (fr : Int) + (l.length : Int) = t at *
  generalize (cntS (sec fr l n) : Int) = c at *
  generalize genS (sec fr l n) = g at *
  go_enter Tryz.func172, Tryz.ntmps172
  go_wp2
  go_ret
  exact ⟨rfl, by first | exact (Below.refl _ w).alloc (Nat.le_refl _) _ | exact ((Below.refl _ w).alloc (Nat.le_refl _) _).setCell (by simp) _ _⟩

/-- a store into the map of sectors, as the walk meets it -/
theorem wp_store {ops : Array Oper} {rest : List Oper} {o : Oper} {a : Act} {Q : Exit → Act → World → Prop} {w : World} {n : Int} {c : Nat} {g : Int}
    (hg : o.guard = none) (mo x v : Operand) (hop : o.op = Op.mapUpdate 192 mo x v) (hm : a.eval mo = .map (some b)) (hx : a.eval x = .int .i64 n) (hv : a.eval v = .agg #[.int .i64 (c : Int), .int .i64 g])
    (h : Sec w b fr l) (hok : Ok fr l) (hi : In fr l n)
    (hK : ∀ w', Sec w' b fr (upd fr l n (some (c, g))) → w.grownBy w' (some b) → wpList Tryz.prog ops Q rest (a.put o.dst undef) w') :
    wpList Tryz.prog ops Q (o :: rest) a w := by
  refine wpList_plain hg fun K' hK' => ?_
  obtain ⟨w', hrun, r1, r2⟩ := h.store hok hi c g
  unfold Oper.wp
  simp [execOp, hop, hm, hx, hv, hrun, Result.andThen]
  exact hK' _ _ (hK w' r1 r2)
/-- .. and a deletion -/
theorem wp_del {ops : Array Oper} {rest : List Oper} {o : Oper} {a : Act} {Q : Exit → Act → World → Prop} {w : World} {n : Int}
    (hg : o.guard = none) (mo x : Operand) (hop : o.op = Op.call { callee := Callee.builtin Builtin.delete, args := #[mo, x], argTypes := #[192, 3] }) (hm : a.eval mo = .map (some b)) (hx : a.eval x = .int .i64 n)
    (h : Sec w b fr l) (hok : Ok fr l) (hi : In fr l n)
    (hK : ∀ w', Sec w' b fr (upd fr l n none) → w.grownBy w' (some b) → wpList Tryz.prog ops Q rest (a.put o.dst (.tuple #[])) w') :
    wpList Tryz.prog ops Q (o :: rest) a w := by
  refine wpList_plain hg fun K' hK' => ?_
  obtain ⟨w', hrun, r1, r2⟩ := h.del hok hi o.type
  unfold Oper.wp
  simp [execOp, hop, resolve, invoke, builtin, hm, hx, hrun, Result.andThen]
  exact hK' _ _ (hK w' r1 r2)

set_option maxHeartbeats 1000000 in
set_option maxRecDepth 20000 in
theorem mark_ok (n gen : Int) (w : World) (h : AllocAt w d b fr l) (hi : In fr l n) (hn : I64 n) (hg : I64 gen) (hs : sec fr l n = none) :
    Calls Tryz.prog 172 #[.pointer (some ⟨d, 0, none⟩), .int .i64 n, .int .i64 gen] w fun e w' => e = .returned (.int .i64 0) ∧ AllocAt w' d b fr (upd fr l n (some (1, gen))) ∧ Moves [b] w w' := by
  have c0 := h.cell0
  have c1 := h.cell1
  have c2 := h.cell2
  have hl0 := (h.map.look_any hn).1
  rw [hs] at hl0
  have hl : Sem.run Tryz.prog (Instr.lookup 192 (.map (some b)) (.int .i64 n) true) w = .ok (.tuple #[.agg #[.int .i64 0, .int .i64 0], .bool false]) w := hl0
  clear hl0
  have h1 : ¬ n < (fr : Int) := by unfold In at hi; omega
  have h2 : ¬ (fr : Int) + (l.length : Int) ≤ n := by unfold In at hi; omega
  have HA := hide (h.grow ((Below.refl _ w).alloc (Nat.le_refl _) (.cells #[.int .i64 0, .int .i64 0] 231)))
  have q2 := (unhide HA).cell2
  have HI := hide hi
  have HG := hide hg
  clear h hi hn hs hg
  generalize (fr : Int) + (l.length : Int) = t at *
  go_enter Tryz.func172, Tryz.ntmps172
  go_wp2_with (at_mapUpdate; refine wp_store (c := 1) rfl _ _ _ rfl rfl rfl rfl (unhide HA).map (unhide HA).ok (unhide HI) ?_; intro w3 hs3 hg3; have HX := hide (And.intro hs3 hg3); clear hs3 hg3)
  go_ret
  obtain ⟨hs3, hg3⟩ := unhide HX
  exact ⟨rfl, (unhide HA).turn hg3 hs3 (upd_length _ _ _ _) ((unhide HA).ok.upd _ ⟨by decide, unhide HG⟩), (Moves.alloc _ w _).then (Moves.of_grown hg3 (by simp))⟩
theorem mark_any (n gen : Int) (w : World) (h : AllocAt w d b fr l) (hn : I64 n) (hg : I64 gen) :
    Calls Tryz.prog 172 #[.pointer (some ⟨d, 0, none⟩), .int .i64 n, .int .i64 gen] w fun e w' => e = .returned (.int .i64 (markE fr l n)) ∧ AllocAt w' d b fr (markM fr l n gen) ∧ Moves [b] w w' := by
  unfold markE markM
  by_cases hi : In fr l n
  · rw [if_pos hi]
    cases hs : sec fr l n with
    | none =>
      rw [if_pos rfl, if_pos rfl]
      exact mark_ok n gen w h hi hn hg hs
    | some x =>
      rw [if_neg (by simp), if_neg (by simp)]
      refine (mark_there n gen w h hi hn (by rw [hs]; rfl)).mono ?_
      rintro e w' ⟨rfl, hb⟩
      exact ⟨rfl, h.grow hb, Moves.of_below _ hb⟩
  · rw [if_neg hi, sec_none hi, if_pos rfl]
    refine (mark_out n gen w h hi).mono ?_
    rintro e w' ⟨rfl, rfl⟩
    have e : upd fr l n (some (1, gen)) = l := by unfold upd; rw [if_neg hi]
    rw [e]
    exact ⟨rfl, h, Moves.refl _ _⟩
end Go.Proofs.YtlmgmdnmghgkbaaGreatDoor.L5

/- Hold. -/
namespace Go.Proofs.YtlmgmdnmghgkbaaGreatDoor.L5
open Go.ChangeShapes Go.WideShapes Go.ChangeAt Go.RowKit Go.Maps

variable {w w' : World} {d b fr : Nat} {l : List St}

set_option maxHeartbeats 400000 in
theorem hold_nil (n : Int) (w : World) : Calls Tryz.prog 90 #[.pointer none, .int .i64 n] w fun e w' => e = .returned (.int .i64 2) ∧ w' = w := by
  go_enter Tryz.func90, Tryz.ntmps90
  go_wp2
  go_ret
  exact ⟨rfl, rfl⟩
theorem count_is {n : Int} {c : Nat} (hn : I64 n) (w : World) (h : AllocAt w d b fr l) (hc : cntS (sec fr l n) = c) :
    Calls Tryz.prog 82 #[.pointer (some ⟨d, 0, none⟩), .int .i64 n] w fun e w' => e = .returned (.int .i64 (c : Int)) ∧ w' = w := by
  subst hc
  exact count_any n hn w h
set_option maxHeartbeats 1000000 in
set_option maxRecDepth 20000 in
theorem hold_free (n : Int) (w : World) (h : AllocAt w d b fr l) (hn : I64 n) (hc : cntS (sec fr l n) = 0) :
    Calls Tryz.prog 90 #[.pointer (some ⟨d, 0, none⟩), .int .i64 n] w fun e w' => e = .returned (.int .i64 51) ∧ w' = w := by
  have HC := hide (count_is hn w h hc)
  clear h hn hc
  go_enter Tryz.func90, Tryz.ntmps90
  go_wp2_with (go_at_call 82; refine (unhide HC).mono ?_; rintro e w' ⟨rfl, rfl⟩)
  go_ret
  exact ⟨rfl, rfl⟩
set_option maxHeartbeats 1000000 in
set_option maxRecDepth 20000 in
theorem hold_many (n : Int) (w : World) (h : AllocAt w d b fr l) (hn : I64 n) (hc : cntS (sec fr l n) = 5000) :
    Calls Tryz.prog 90 #[.pointer (some ⟨d, 0, none⟩), .int .i64 n] w fun e w' => e = .returned (.int .i64 52) ∧ w' = w := by
  have HC := hide (count_is hn w h hc)
  clear h hn hc
  go_enter Tryz.func90, Tryz.ntmps90
  go_wp2_with (go_at_call 82; refine (unhide HC).mono ?_; rintro e w' ⟨rfl, rfl⟩)
  go_ret
  exact ⟨rfl, rfl⟩
set_option maxHeartbeats 2000000 in
set_option maxRecDepth 20000 in
theorem hold_ok (n : Int) (w : World) (h : AllocAt w d b fr l) (hn : I64 n) (c : Nat) (g : Int) (hs : sec fr l n = some (c, g)) (h0 : c ≠ 0) (h5 : c ≠ 5000) :
    Calls Tryz.prog 90 #[.pointer (some ⟨d, 0, none⟩), .int .i64 n] w fun e w' => e = .returned (.int .i64 0) ∧ AllocAt w' d b fr (upd fr l n (some (c + 1, g))) ∧ Moves [b] w w' := by
  have c2 := h.cell2
  have hl := (h.map.look_any hn).2
  rw [hs] at hl
  have hl2 : Sem.run Tryz.prog (Instr.lookup 192 (.map (some b)) (.int .i64 n) false) w = .ok (.agg #[.int .i64 (c : Int), .int .i64 g]) w := hl
  clear hl
  have hgood := h.ok.sec n
  rw [hs] at hgood
  have hgo : c ≤ 5000 ∧ I64 g := hgood
  have hw : IntKind.i64.wrap ((c : Int) + 1) = (c : Int) + 1 := by rw [IntKind.wrap_i64]; omega
  have k0 : ¬ (c : Int) = 0 := by omega
  have k5 : ¬ (c : Int) = 5000 := by omega
  have HC := hide (count_is (c := c) hn w h (by rw [hs]; rfl))
  have hi := sec_some hs
  have HI := hide hi
  have HGO := hide hgo
  have H5 := hide h5
  have HA := hide h
  clear h hn hs h0 h5 hgood hgo hi
  go_enter Tryz.func90, Tryz.ntmps90
  go_wp2_with (go_at_call 82; refine (unhide HC).mono ?_; rintro e w ⟨rfl, rfl⟩)
  have HB : Hid (Below w.heap.size w (w.alloc (.cells #[.int .i64 ((c : Int) + 1), .int .i64 g] 231)).drew) := ((Below.refl _ w).alloc (Nat.le_refl _) _).drew
  have hA2 := (unhide HA).grow (unhide HB)
  have q2 := hA2.cell2
  have r0 : (w.alloc (.cells #[.int .i64 ((c : Int) + 1), .int .i64 g] 231)).drew.cell? ⟨w.heap.size, 0, none⟩ = some (.int .i64 ((c : Int) + 1)) := by simp
  have r1 : (w.alloc (.cells #[.int .i64 ((c : Int) + 1), .int .i64 g] 231)).drew.cell? ⟨w.heap.size, 1, none⟩ = some (.int .i64 g) := by simp
  obtain ⟨w3, hrun, hs3, hg3⟩ := hA2.map.store hA2.ok (unhide HI) (c + 1) g
  rw [show (((c + 1 : Nat) : Int)) = (c : Int) + 1 by omega] at hrun
  have HX := hide (And.intro hA2 (And.intro hs3 hg3))
  clear hA2 hs3 hg3 hl2 c2
  obtain ⟨p, hp⟩ : ∃ y, y = w.heap.size := ⟨_, rfl⟩
  rw [← hp] at r0 r1 ⊢
  clear hp
  generalize w.alloc (.cells #[.int .i64 ((c : Int) + 1), .int .i64 g] 231) = wa at *
  go_region
  all_goals
    go_wp2
    go_ret
    obtain ⟨hA2, hs3, hg3⟩ := unhide HX
    exact ⟨rfl, hA2.turn hg3 hs3 (upd_length _ _ _ _) (hA2.ok.upd _ ⟨by have := unhide HGO; have := unhide H5; omega, (unhide HGO).2⟩), (Moves.of_below _ (unhide HB)).then (Moves.of_grown hg3 (by simp))⟩
theorem hold_any (n : Int) (w : World) (h : AllocAt w d b fr l) (hn : I64 n) :
    Calls Tryz.prog 90 #[.pointer (some ⟨d, 0, none⟩), .int .i64 n] w fun e w' => e = .returned (.int .i64 (holdE fr l n)) ∧ AllocAt w' d b fr (holdM fr l n) ∧ Moves [b] w w' := by
  unfold holdE holdM
  by_cases h5 : cntS (sec fr l n) = 5000
  · rw [if_pos h5, if_pos h5, if_neg (by omega)]
    refine (hold_many n w h hn h5).mono ?_
    rintro e w' ⟨rfl, rfl⟩
    exact ⟨rfl, h, Moves.refl _ _⟩
  · rw [if_neg h5, if_neg h5]
    have none_case : ∀ s, s = sec fr l n → cntS s = 0 → upd fr l n (holdS (sec fr l n)) = l := by
      intro s e h0
      rw [← e]
      have e2 : holdS s = s := by
        cases s with
        | none => rfl
        | some x => obtain ⟨c, g⟩ := x; change c = 0 at h0; subst h0; rfl
      rw [e2]
      unfold upd
      split
      · rename_i hi
        apply List.ext_getElem?
        intro j
        rw [List.getElem?_set]
        split
        · rename_i ej
          subst ej
          rw [if_pos (ix_lt hi), sec_at hi, e]
        · rfl
      · rfl
    by_cases h0 : cntS (sec fr l n) = 0
    · rw [if_pos h0, none_case _ rfl h0]
      refine (hold_free n w h hn h0).mono ?_
      rintro e w' ⟨rfl, rfl⟩
      exact ⟨rfl, h, Moves.refl _ _⟩
    · rw [if_neg h0]
      cases hs : sec fr l n with
      | none => rw [hs] at h0; exact absurd rfl h0
      | some x =>
        obtain ⟨c, g⟩ := x
        rw [hs] at h0 h5
        change ¬ c = 0 at h0
        change ¬ c = 5000 at h5
        obtain ⟨k, rfl⟩ : ∃ k, c = k + 1 := ⟨c - 1, by omega⟩
        exact hold_ok n w h hn (k + 1) g hs h0 h5
end Go.Proofs.YtlmgmdnmghgkbaaGreatDoor.L5
