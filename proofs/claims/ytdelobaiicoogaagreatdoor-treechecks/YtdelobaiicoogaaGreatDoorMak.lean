/- Texts that the proof needs, one behind the other. -/
import Derived.Test.YtdelobaiicoogaaGreatDoorMaj
import Derived.Maps.AppendAt
/- A disk of the program in memory, and its small functions. -/
namespace Go.Proofs.YtdelobaiicoogaaGreatDoor.L3
open Go.ChangeShapes Go.WideShapes Go.ChangeAt Go.RowKit

/-- nothing but these blocks has turned -/
structure Moves (fp : List Nat) (w w' : World) : Prop where
  os : w'.os = w.os
  tape : w'.tape = w.tape
  output : w'.output = w.output
  size : w.heap.size ≤ w'.heap.size
  block : ∀ k, k < w.heap.size → k ∉ fp → w'.heap[k]? = w.heap[k]?

theorem Moves.refl (fp : List Nat) (w : World) : Moves fp w w := ⟨rfl, rfl, rfl, Nat.le_refl _, fun _ _ _ => rfl⟩
theorem Moves.of_below {w w' : World} (fp : List Nat) (h : Below w.heap.size w w') : Moves fp w w' := ⟨h.os, h.tape, h.output, h.size, fun k hk _ => h.block k hk⟩
theorem Moves.to_below {w w' : World} (h : Moves [] w w') : Below w.heap.size w w' := ⟨h.os, h.tape, h.output, h.size, fun k hk => h.block k hk List.not_mem_nil⟩
theorem Moves.of_grown {w w' : World} {r : Option Nat} {fp : List Nat} (h : w.grownBy w' r) (hr : ∀ k, r = some k → k ∈ fp) : Moves fp w w' :=
  ⟨h.os, h.tape, h.output, h.size, fun k hk hn => h.block k hk (fun e => hn (hr k e.symm))⟩
theorem Moves.trans {fp fq : List Nat} {w w1 w2 : World} (h : Moves fp w w1) (k : Moves fq w1 w2) (hq : ∀ x ∈ fq, x ∈ fp ∨ w.heap.size ≤ x) : Moves fp w w2 :=
  ⟨k.os.trans h.os, k.tape.trans h.tape, k.output.trans h.output, Nat.le_trans h.size k.size, fun i hi hn => (k.block i (Nat.lt_of_lt_of_le hi h.size) (fun hm => by
    rcases hq i hm with h1 | h1
    · exact hn h1
    · omega)).trans (h.block i hi hn)⟩
theorem Moves.then {fp : List Nat} {w w1 w2 : World} (h : Moves fp w w1) (k : Moves fp w1 w2) : Moves fp w w2 := h.trans k (fun _ hx => .inl hx)
theorem Moves.mono {fp fq : List Nat} {w w1 : World} (h : Moves fp w w1) (hs : ∀ x ∈ fp, x ∈ fq ∨ w.heap.size ≤ x) : Moves fq w w1 := (Moves.refl fq w).trans h hs
theorem Moves.below {fp : List Nat} {B : Nat} {w0 w w' : World} (h0 : Below B w0 w) (h : Moves fp w w') (hfp : ∀ x ∈ fp, B ≤ x) (hB : B ≤ w.heap.size) : Below B w0 w' :=
  h0.trans ⟨h.os, h.tape, h.output, h.size, fun k hk => h.block k (by omega) (fun hm => by have := hfp k hm; omega)⟩
theorem Moves.set (w : World) (g j : Nat) (u : Value) {fp : List Nat} (hg : g ∈ fp) : Moves fp w (w.setCell ⟨g, j, none⟩ u) :=
  ⟨rfl, rfl, rfl, by simp, fun k _ hn => Below.heap_setCell w ⟨g, j, none⟩ u k (fun e => hn (by rw [e]; exact hg))⟩
theorem Moves.cell {fp : List Nat} {w w' : World} (h : Moves fp w w') {a : Addr} {v : Value} (hc : w.cell? a = some v) (hn : a.block ∉ fp) : w'.cell? a = some v :=
  (World.cell?_of_block (h.block a.block (World.block_lt_of_cell? w a hc) hn)).trans hc

/-- the power as the program has it -/
def pw (m : Dk) : Int := if m.gone = true then -2 else m.left

def opCells (op : List (Nat × ByteArray)) : List Value := op.flatMap fun p => [.int .i64 (p.1 : Int), .string p.2]
theorem opCells_snoc (op : List (Nat × ByteArray)) (p : Nat × ByteArray) : opCells (op ++ [p]) = opCells op ++ [.int .i64 (p.1 : Int), .string p.2] := by
  simp [opCells]
theorem opCells_at (op : List (Nat × ByteArray)) : ∀ (j : Nat) (h : j < op.length), (opCells op)[j * 2]? = some (.int .i64 (op[j].1 : Int)) ∧ (opCells op)[j * 2 + 1]? = some (.string op[j].2) := by
  induction op with
  | nil => intro j h; simp at h
  | cons p r ih =>
    intro j h
    have e : opCells (p :: r) = .int .i64 (p.1 : Int) :: .string p.2 :: opCells r := rfl
    match j, h with
    | 0, _ => rw [e]; exact ⟨rfl, rfl⟩
    | j + 1, h =>
      have := ih j (by simp at h; omega)
      rw [e, show (j + 1) * 2 = j * 2 + 1 + 1 by omega, List.getElem?_cons_succ, List.getElem?_cons_succ, List.getElem?_cons_succ, List.getElem?_cons_succ]
      exact this

/-- a disk in memory -/
structure DiskAt (w : World) (d : Nat) (m : Dk) (c fb lb : Nat) (ov : Value) : Prop where
  blk : w.heap[d]? = some (.cells #[.int .i64 (m.old.length : Int), .int .i64 (pw m), .map (some fb), .map (some lb), ov] 210 (0, 0))
  fl : ∃ F nf, Sec w fb nf F ∧ nf + m.op.length ≤ c ∧ ∀ i, i < m.old.length → (F i).getD zeros = m.old.getD i ByteArray.empty
  la : ∃ L, Sec w lb m.op.length L ∧ ∀ i, i < m.old.length → L i = lastW m.op i
  op : w.ownsRow 0 225 2 ov m.op.length (opCells m.op)
  ne : fb ≠ lb
  nd : ov.ownBlock ≠ some d
  ok : Ok m

def fpOf (d fb lb : Nat) (ov : Value) : List Nat := d :: fb :: lb :: ov.ownBlock.toList

variable {w w' : World} {d : Nat} {m : Dk} {c fb lb : Nat} {ov : Value}

theorem DiskAt.cell0 (h : DiskAt w d m c fb lb ov) : w.cell? ⟨d, 0, none⟩ = some (.int .i64 (m.old.length : Int)) := by simp [World.cell?, h.blk]
theorem DiskAt.cell1 (h : DiskAt w d m c fb lb ov) : w.cell? ⟨d, 1, none⟩ = some (.int .i64 (pw m)) := by simp [World.cell?, h.blk]
theorem DiskAt.cell2 (h : DiskAt w d m c fb lb ov) : w.cell? ⟨d, 2, none⟩ = some (.map (some fb)) := by simp [World.cell?, h.blk]
theorem DiskAt.cell3 (h : DiskAt w d m c fb lb ov) : w.cell? ⟨d, 3, none⟩ = some (.map (some lb)) := by simp [World.cell?, h.blk]
theorem DiskAt.cell4 (h : DiskAt w d m c fb lb ov) : w.cell? ⟨d, 4, none⟩ = some ov := by simp [World.cell?, h.blk]
theorem DiskAt.free (h : DiskAt w d m c fb lb ov) (i : Nat) : w.frozen? ⟨d, i, none⟩ = false := by simp [World.frozen?, h.blk]
theorem DiskAt.dlt (h : DiskAt w d m c fb lb ov) : d < w.heap.size := (Array.getElem?_eq_some_iff.1 h.blk).1
theorem DiskAt.lt (h : DiskAt w d m c fb lb ov) : ∀ x ∈ fpOf d fb lb ov, x < w.heap.size := by
  intro x hx
  simp [fpOf] at hx
  obtain ⟨F, nf, h1, _⟩ := h.fl
  obtain ⟨L, h2, _⟩ := h.la
  rcases hx with rfl | rfl | rfl | hx
  · exact h.dlt
  · exact h1.lt
  · exact h2.lt
  · exact (h.op.lt x hx).2
theorem DiskAt.df (h : DiskAt w d m c fb lb ov) : d ≠ fb := by
  intro e
  obtain ⟨F, nf, h1, _⟩ := h.fl
  obtain ⟨es, cl, h1⟩ := h1.kind
  have h0 := h.blk
  rw [e, h1] at h0
  cases h0
theorem DiskAt.dl (h : DiskAt w d m c fb lb ov) : d ≠ lb := by
  intro e
  obtain ⟨F, h1, _⟩ := h.la
  obtain ⟨es, cl, h1⟩ := h1.kind
  have h0 := h.blk
  rw [e, h1] at h0
  cases h0
theorem ownsRow_kind {b : Nat} {e : TypeId} {size : Nat} {v : Value} {n : Nat} {xs : List Value} {g : Nat} (h : w.ownsRow b e size v n xs) (hv : v.ownBlock = some g) : ∃ cur, w.heap[g]? = some (.cells cur e (0, 0)) := by
  rcases h.2 with ⟨rfl, _⟩ | ⟨g', cap, cur, rfl, _, hg, _⟩
  · simp [Value.ownBlock] at hv
  · simp [Value.ownBlock] at hv
    subst hv
    exact ⟨cur, hg⟩
theorem DiskAt.of (h : DiskAt w d m c fb lb ov) : ov.ownBlock ≠ some fb := by
  intro e
  obtain ⟨cur, h0⟩ := ownsRow_kind h.op e
  obtain ⟨F, nf, h1, _⟩ := h.fl
  obtain ⟨es, cl, h1⟩ := h1.kind
  rw [h1] at h0
  cases h0
theorem DiskAt.ol (h : DiskAt w d m c fb lb ov) : ov.ownBlock ≠ some lb := by
  intro e
  obtain ⟨cur, h0⟩ := ownsRow_kind h.op e
  obtain ⟨F, h1, _⟩ := h.la
  obtain ⟨es, cl, h1⟩ := h1.kind
  rw [h1] at h0
  cases h0
theorem ownsRow_same {b : Nat} {e : TypeId} {size : Nat} {v : Value} {n : Nat} {xs : List Value} (h : w.ownsRow b e size v n xs) (hs : ∀ g, v.ownBlock = some g → w'.heap[g]? = w.heap[g]?) : w'.ownsRow b e size v n xs := by
  refine ⟨h.1, ?_⟩
  rcases h.2 with hn | ⟨g, cap, cur, rfl, hb, hgg, rest⟩
  · exact .inl hn
  · exact .inr ⟨g, cap, cur, rfl, hb, (hs g rfl).trans hgg, rest⟩
theorem DiskAt.same (h : DiskAt w d m c fb lb ov) (hs : ∀ x ∈ fpOf d fb lb ov, w'.heap[x]? = w.heap[x]?) : DiskAt w' d m c fb lb ov := by
  obtain ⟨F, nf, h1, r1⟩ := h.fl
  obtain ⟨L, h2, r2⟩ := h.la
  exact ⟨(hs d (by simp [fpOf])).trans h.blk, ⟨F, nf, h1.same (hs fb (by simp [fpOf])), r1⟩, ⟨L, h2.same (hs lb (by simp [fpOf])), r2⟩, ownsRow_same h.op (fun g hg => hs g (by simp [fpOf, hg])), h.ne, h.nd, h.ok⟩
theorem DiskAt.keep {fq : List Nat} (h : DiskAt w d m c fb lb ov) (hm : Moves fq w w') (hd : ∀ x ∈ fpOf d fb lb ov, x ∉ fq) : DiskAt w' d m c fb lb ov :=
  h.same (fun x hx => hm.block x (h.lt x hx) (hd x hx))
theorem DiskAt.grow (h : DiskAt w d m c fb lb ov) (hm : Below w.heap.size w w') : DiskAt w' d m c fb lb ov :=
  h.same (fun x hx => hm.block x (h.lt x hx))
/-- another power -/
theorem DiskAt.power (h : DiskAt w d m c fb lb ov) (m' : Dk) (p : Int) (hp : pw m' = p) (ho : m'.old = m.old) (hop : m'.op = m.op) (hok : Ok m') : DiskAt (w.setCell ⟨d, 1, none⟩ (.int .i64 p)) d m' c fb lb ov := by
  have hm : Moves [d] w (w.setCell ⟨d, 1, none⟩ (.int .i64 p)) := Moves.set w d 1 _ (by simp)
  obtain ⟨F, nf, h1, r1⟩ := h.fl
  obtain ⟨L, h2, r2⟩ := h.la
  refine ⟨?_, ⟨F, nf, h1.same (hm.block _ h1.lt (by have := h.df; simp; omega)), by rw [ho, hop]; exact r1⟩, ⟨L, by rw [hop]; exact h2.same (hm.block _ h2.lt (by have := h.dl; simp; omega)), by rw [ho, hop]; exact r2⟩, ?_, h.ne, h.nd, hok⟩
  · rw [ho, hp]
    simp [World.setCell, Array.getElem?_modify, h.blk]
  · rw [hop]
    exact ownsRow_same h.op (fun g hg => hm.block g (h.op.lt g hg).2 (by simp; intro e; subst e; exact h.nd hg))

/-! the small functions -/
set_option maxHeartbeats 400000 in
theorem has_yes (d : Nat) (n N : Int) (w : World) (h0 : w.cell? ⟨d, 0, none⟩ = some (.int .i64 N)) (h1 : 0 ≤ n) (h2 : n < N) :
    Calls Tryz.prog 104 #[.pointer (some ⟨d, 0, none⟩), .int .i64 n] w fun e w' => e = .returned (.bool true) ∧ w' = w := by
  go_enter Tryz.func104, Tryz.ntmps104
  go_wp2
  go_ret
  exact ⟨rfl, rfl⟩
set_option maxHeartbeats 400000 in
theorem has_no (d : Nat) (n N : Int) (w : World) (h0 : w.cell? ⟨d, 0, none⟩ = some (.int .i64 N)) (h : n < 0 ∨ N ≤ n) :
    Calls Tryz.prog 104 #[.pointer (some ⟨d, 0, none⟩), .int .i64 n] w fun e w' => e = .returned (.bool false) ∧ w' = w := by
  by_cases h1 : n < 0
  · have h2 : ¬ 0 ≤ n := by omega
    go_enter Tryz.func104, Tryz.ntmps104
    go_wp2
    go_ret
    simp
  · have h2 : 0 ≤ n := by omega
    have h3 : ¬ n < N := by omega
    go_enter Tryz.func104, Tryz.ntmps104
    go_wp2
    go_ret
    exact ⟨rfl, rfl⟩
set_option maxHeartbeats 400000 in
theorem fails_gone (d : Nat) (w : World) (h1 : w.cell? ⟨d, 1, none⟩ = some (.int .i64 (-2))) :
    Calls Tryz.prog 103 #[.pointer (some ⟨d, 0, none⟩)] w fun e w' => e = .returned (.bool true) ∧ w' = w := by
  go_enter Tryz.func103, Tryz.ntmps103
  go_wp2
  go_ret
  exact ⟨rfl, rfl⟩
set_option maxHeartbeats 400000 in
theorem fails_now (d : Nat) (w : World) (h1 : w.cell? ⟨d, 1, none⟩ = some (.int .i64 0)) (hf : w.frozen? ⟨d, 1, none⟩ = false) :
    Calls Tryz.prog 103 #[.pointer (some ⟨d, 0, none⟩)] w fun e w' => e = .returned (.bool true) ∧ w' = w.setCell ⟨d, 1, none⟩ (.int .i64 (-2)) := by
  go_enter Tryz.func103, Tryz.ntmps103
  go_wp2
  go_ret
  exact ⟨rfl, rfl⟩
set_option maxHeartbeats 400000 in
theorem fails_not (d : Nat) (p : Int) (w : World) (h1 : w.cell? ⟨d, 1, none⟩ = some (.int .i64 p)) (h2 : p ≠ -2) (h3 : p ≠ 0) :
    Calls Tryz.prog 103 #[.pointer (some ⟨d, 0, none⟩)] w fun e w' => e = .returned (.bool false) ∧ w' = w := by
  go_enter Tryz.func103, Tryz.ntmps103
  go_wp2
  go_ret
  exact ⟨rfl, rfl⟩
set_option maxHeartbeats 400000 in
theorem spend_some (d : Nat) (p : Int) (w : World) (h1 : w.cell? ⟨d, 1, none⟩ = some (.int .i64 p)) (hf : w.frozen? ⟨d, 1, none⟩ = false) (h2 : 0 < p) (h3 : p ≤ 9223372036854775807) :
    Calls Tryz.prog 105 #[.pointer (some ⟨d, 0, none⟩)] w fun e w' => e = .returned (.tuple #[]) ∧ w' = w.setCell ⟨d, 1, none⟩ (.int .i64 (p - 1)) := by
  have hw : IntKind.i64.wrap (p - 1) = p - 1 := by rw [IntKind.wrap_i64]; omega
  go_enter Tryz.func105, Tryz.ntmps105
  go_wp2
  go_end0
  exact ⟨rfl, rfl⟩
set_option maxHeartbeats 400000 in
theorem spend_none (d : Nat) (p : Int) (w : World) (h1 : w.cell? ⟨d, 1, none⟩ = some (.int .i64 p)) (h2 : ¬ 0 < p) :
    Calls Tryz.prog 105 #[.pointer (some ⟨d, 0, none⟩)] w fun e w' => e = .returned (.tuple #[]) ∧ w' = w := by
  go_enter Tryz.func105, Tryz.ntmps105
  go_wp2
  go_end0
  exact ⟨rfl, rfl⟩
end Go.Proofs.YtdelobaiicoogaaGreatDoor.L3

/- What is asked of a disk: Read, Sectors, Open, Down. -/
namespace Go.Proofs.YtdelobaiicoogaaGreatDoor.L3
open Go.ChangeShapes Go.WideShapes Go.ChangeAt Go.RowKit

set_option maxHeartbeats 400000 in
theorem lasting_some (b k : Nat) (f : Nat → Option ByteArray) (n : Int) (s : ByteArray) (w : World) (h : Sec w b k f) (h0 : 0 ≤ n) (h1 : n < 4096) (hf : f n.toNat = some s) :
    Calls Tryz.prog 175 #[.map (some b), .int .i64 n] w fun e w' => e = .returned (.string s) ∧ Below w.heap.size w w' := by
  have hl := h.look h0 h1 hf
  go_enter Tryz.func175, Tryz.ntmps175
  go_wp2
  go_ret
  exact ⟨rfl, (Below.refl _ _).alloc (Nat.le_refl _) _⟩
set_option maxHeartbeats 400000 in
theorem lasting_none (b k : Nat) (f : Nat → Option ByteArray) (n : Int) (w : World) (h : Sec w b k f) (h0 : 0 ≤ n) (h1 : n < 4096) (hf : f n.toNat = none) :
    Calls Tryz.prog 175 #[.map (some b), .int .i64 n] w fun e w' => e = .returned (.string zeros) ∧ Below w.heap.size w w' := by
  have hl := h.look_none h0 h1 hf
  go_enter Tryz.func175, Tryz.ntmps175
  go_wp2_with (go_at_call 100; refine (zeros_any _).mono ?_; rintro e w' ⟨rfl, hb⟩)
  go_ret
  refine ⟨rfl, ?_⟩
  exact ((Below.refl _ _).alloc (Nat.le_refl _) _).trans (hb.mono (by simp))
theorem lasting_any (b k : Nat) (f : Nat → Option ByteArray) (n : Int) (w : World) (h : Sec w b k f) (h0 : 0 ≤ n) (h1 : n < 4096) :
    Calls Tryz.prog 175 #[.map (some b), .int .i64 n] w fun e w' => e = .returned (.string ((f n.toNat).getD zeros)) ∧ Below w.heap.size w w' := by
  cases hf : f n.toNat with
  | none => exact lasting_none b k f n w h h0 h1 hf
  | some s => exact lasting_some b k f n s w h h0 h1 hf

variable {d : Nat} {m : Dk} {c fb lb : Nat} {ov : Value}

set_option maxHeartbeats 400000 in
set_option maxRecDepth 20000 in
theorem read_gone (n : Int) (w : World) (h : DiskAt w d m c fb lb ov) (hg : m.gone = true) :
    Calls Tryz.prog 144 #[.pointer (some ⟨d, 0, none⟩), .int .i64 n] w fun e w' => e = .returned (.tuple #[.string ByteArray.empty, .int .i64 30]) ∧ Below w.heap.size w w' := by
  have h1 := h.cell1
  have e : pw m = -2 := by unfold pw; rw [if_pos hg]
  rw [e] at h1
  go_enter Tryz.func144, Tryz.ntmps144
  go_wp2
  go_ret2
  exact ⟨rfl, Below.refl _ _⟩
set_option maxHeartbeats 400000 in
set_option maxRecDepth 20000 in
theorem read_out (n : Int) (w : World) (h : DiskAt w d m c fb lb ov) (hg : m.gone = false) (hn : n < 0 ∨ (m.old.length : Int) ≤ n) :
    Calls Tryz.prog 144 #[.pointer (some ⟨d, 0, none⟩), .int .i64 n] w fun e w' => e = .returned (.tuple #[.string ByteArray.empty, .int .i64 31]) ∧ Below w.heap.size w w' := by
  have h1 := h.cell1
  have e : pw m = m.left := by unfold pw; rw [if_neg (by rw [hg]; decide)]
  rw [e] at h1
  have hl : m.left ≠ -2 := by have := h.ok.left; omega
  have h0 := hide h.cell0
  have HN := hide hn
  clear hn
  go_enter Tryz.func144, Tryz.ntmps144
  go_wp2_with (go_at_call 104; refine (has_no _ _ _ _ (unhide h0) (unhide HN)).mono ?_; rintro e w' ⟨rfl, rfl⟩)
  go_ret2
  exact ⟨rfl, Below.refl _ _⟩
set_option maxHeartbeats 400000 in
set_option maxRecDepth 20000 in
theorem read_open (n : Int) (s : ByteArray) (w : World) (h : DiskAt w d m c fb lb ov) (hg : m.gone = false) (hn0 : 0 ≤ n) (hn1 : n < (m.old.length : Int)) (hs : lastW m.op n.toNat = some s) :
    Calls Tryz.prog 144 #[.pointer (some ⟨d, 0, none⟩), .int .i64 n] w fun e w' => e = .returned (.tuple #[.string s, .int .i64 0]) ∧ Below w.heap.size w w' := by
  have h1 := h.cell1
  have e : pw m = m.left := by unfold pw; rw [if_neg (by rw [hg]; decide)]
  rw [e] at h1
  have hl : m.left ≠ -2 := by have := h.ok.left; omega
  have h0 := hide h.cell0
  have h3 := h.cell3
  obtain ⟨L, hL, hLw⟩ := h.la
  have hmany := h.ok.many
  have hlk := hL.look (n := n) hn0 (by omega) ((hLw n.toNat (by omega)).trans hs)
  have hsz : s.size ≤ 1000000 := by have := (h.ok.op _ (lastW_mem _ _ _ hs)).2; simp at this; omega
  have HZ := hide hsz
  clear hsz
  have H0 := hide hn0
  have H1 := hide hn1
  clear hn0 hn1 hL hLw hmany hs e
  go_enter Tryz.func144, Tryz.ntmps144
  go_wp2_with (first | (go_at_call 104; refine (has_yes _ _ _ _ (unhide h0) (unhide H0) (unhide H1)).mono ?_; rintro e w' ⟨rfl, rfl⟩) | (go_at_call 106; refine (clone_any _ _ (unhide HZ)).mono ?_; rintro e w' ⟨rfl, hb⟩))
  go_ret2
  refine ⟨rfl, ?_⟩
  exact ((Below.refl _ _).alloc (Nat.le_refl _) _).trans (hb.mono (by simp))
set_option maxHeartbeats 400000 in
set_option maxRecDepth 20000 in
theorem read_last (n : Int) (w : World) (h : DiskAt w d m c fb lb ov) (hg : m.gone = false) (hn0 : 0 ≤ n) (hn1 : n < (m.old.length : Int)) (hs : lastW m.op n.toNat = none) :
    Calls Tryz.prog 144 #[.pointer (some ⟨d, 0, none⟩), .int .i64 n] w fun e w' => e = .returned (.tuple #[.string (m.old.getD n.toNat ByteArray.empty), .int .i64 0]) ∧ Below w.heap.size w w' := by
  have h1 := h.cell1
  have e : pw m = m.left := by unfold pw; rw [if_neg (by rw [hg]; decide)]
  rw [e] at h1
  have hl : m.left ≠ -2 := by have := h.ok.left; omega
  have h0 := hide h.cell0
  have h2 := h.cell2
  have h3 := h.cell3
  obtain ⟨L, hL, hLw⟩ := h.la
  obtain ⟨F, nf, hF, _, hFw⟩ := h.fl
  have hmany := h.ok.many
  have hlk := hL.look_none (n := n) hn0 (by omega) ((hLw n.toNat (by omega)).trans hs)
  have hsz : (m.old.getD n.toNat ByteArray.empty).size ≤ 1000000 := by have := h.ok.old n.toNat (by omega); omega
  have hval := hFw n.toNat (by omega)
  have hn4 : n < 4096 := by omega
  have hdl := h.dlt
  have H2 : ∀ o, (w.alloc o).cell? ⟨d, 2, none⟩ = some (.map (some fb)) := fun o => by
    rw [Below.cell ((Below.refl _ _).alloc (Nat.le_refl _) o) (by exact hdl)]
    exact h2
  have HF : ∀ o, Sec (w.alloc o) fb nf F := fun o => hF.same (Below.heap_alloc _ _ _ hF.lt)
  have HZ := hide hsz
  clear hsz
  have H0 := hide hn0
  have H1 := hide hn1
  have H4 := hide hn4
  clear hn0 hn1 hn4 hL hLw hmany hs e hFw hF h2
  go_enter Tryz.func144, Tryz.ntmps144
  go_wp2_with (first | (go_at_call 104; refine (has_yes _ _ _ _ (unhide h0) (unhide H0) (unhide H1)).mono ?_; rintro e w' ⟨rfl, rfl⟩) | (go_at_call 175; refine (lasting_any _ _ _ _ _ (HF _) (unhide H0) (unhide H4)).mono ?_; rintro e w' ⟨rfl, hb1⟩; rw [hval]) | (go_at_call 106; refine (clone_any _ _ (unhide HZ)).mono ?_; rintro e w' ⟨rfl, hb⟩))
  go_ret2
  refine ⟨rfl, ?_⟩
  exact (((Below.refl _ _).alloc (Nat.le_refl _) _).trans (hb1.mono (by simp))).trans (hb.mono (by have := hb1.size; simp at this; omega))

/-- Read: the document's answer -/
theorem read_any (n : Int) (w : World) (h : DiskAt w d m c fb lb ov) :
    Calls Tryz.prog 144 #[.pointer (some ⟨d, 0, none⟩), .int .i64 n] w fun e w' => e = .returned (.tuple #[.string (readM m n).1, .int .i64 (readM m n).2]) ∧ Below w.heap.size w w' := by
  unfold readM
  cases hg : m.gone with
  | true => exact read_gone n w h hg
  | false =>
    rw [if_neg (by decide)]
    by_cases hn : n < 0 ∨ (m.old.length : Int) ≤ n
    · rw [if_pos hn]
      exact read_out n w h hg hn
    · rw [if_neg hn]
      cases hs : lastW m.op n.toNat with
      | none => exact read_last n w h hg (by omega) (by omega) hs
      | some s => exact read_open n s w h hg (by omega) (by omega) hs

set_option maxHeartbeats 400000 in
theorem sectors_any (w : World) (h : DiskAt w d m c fb lb ov) :
    Calls Tryz.prog 54 #[.pointer (some ⟨d, 0, none⟩)] w fun e w' => e = .returned (.int .i64 (m.old.length : Int)) ∧ w' = w := by
  have h0 := h.cell0
  go_enter Tryz.func54, Tryz.ntmps54
  go_wp2
  go_ret
  exact ⟨rfl, rfl⟩
theorem ownsRow_form {w : World} {b : Nat} {e : TypeId} {size : Nat} {v : Value} {n : Nat} {xs : List Value} (h : w.ownsRow b e size v n xs) : ∃ a cap, v = .slice a n cap := by
  rcases h.2 with ⟨rfl, rfl⟩ | ⟨g, cap, cur, rfl, _⟩
  · exact ⟨_, _, rfl⟩
  · exact ⟨_, _, rfl⟩
end Go.Proofs.YtdelobaiicoogaaGreatDoor.L3

/- What changes a disk: Write. -/
namespace Go.Proofs.YtdelobaiicoogaaGreatDoor.L3
open Go.ChangeShapes Go.WideShapes Go.ChangeAt Go.RowKit Go.Maps

/-- a store into a map of sectors, as the walk meets it -/
theorem wp_store {ops : Array Oper} {rest : List Oper} {o : Oper} {a : Act} {Q : Exit → Act → World → Prop} {w : World} {b k : Nat} {f : Nat → Option ByteArray} {n : Int} {s : ByteArray}
    (hg : o.guard = none) (mo x v : Operand) (hop : o.op = Op.mapUpdate 136 mo x v) (hm : a.eval mo = .map (some b)) (hx : a.eval x = .int .i64 n) (hv : a.eval v = .agg #[.string s])
    (h : Sec w b k f) (h0 : 0 ≤ n) (h1 : n < 4096) (hs : s.size ≤ maxLen) (hk : k < maxLen)
    (hK : ∀ w', Sec w' b (k + 1) (put f n.toNat s) → w.grownBy w' (some b) → wpList Tryz.prog ops Q rest (a.put o.dst undef) w') :
    wpList Tryz.prog ops Q (o :: rest) a w := by
  refine wpList_plain hg fun K' hK' => ?_
  obtain ⟨w', hrun, r1, r2⟩ := h.store h0 h1 s hs hk
  unfold Oper.wp
  simp [execOp, hop, hm, hx, hv, hrun, Result.andThen]
  exact hK' _ _ (hK w' r1 r2)

/-- append of one element, which stands in a new block -/
theorem app_gen {ops : Array Oper} {rest : List Oper} {o : Oper} {a : Act} {Q : Exit → Act → World → Prop} {t e : TypeId} {z : Value} {size bytes : Nat} {B : Nat} {wr : World} {v : Value} {n : Nat} {xs news : List Value}
    (ht : Tryz.prog.underlying t = some (.slice e)) (hinfo : (Tryz.prog.info? e).map (fun i => (i.zero, i.size, i.bytes)) = some (some z, size, bytes)) (hzs : z.cells.size = size) (hsz : 0 < size)
    (hwant : Region.wanted o (yielded ops a.tmps) = true) (s x : Operand) (ho : o.op = .call { callee := .builtin .append, args := #[s, x], argTypes := #[t, t] })
    (hs : a.eval s = v) (hx : a.eval x = .slice (some ⟨wr.heap.size, 0, none⟩) 1 1) (hown : wr.ownsRow B e size v n xs) (hB : B ≤ wr.heap.size) (hnl : news.length = size) (h1 : ∀ u ∈ news, u.oneCell' = true) (hlen : (n + 1) * bytes ≤ 140737488355328) (hl2 : n + 1 ≤ 140737488355328)
    (h : ∀ a' cap' w', w'.ownsRow B e size (.slice a' (n + 1) cap') (n + 1) (xs ++ news) → wr.grownBy w' v.ownBlock → ((Value.slice a' (n + 1) cap').ownBlock = v.ownBlock ∨ ∃ g, (Value.slice a' (n + 1) cap').ownBlock = some g ∧ wr.heap.size ≤ g) → wpList Tryz.prog ops Q rest (a.put o.dst (.slice a' (n + 1) cap')) w') :
    wpList Tryz.prog ops Q (o :: rest) a (wr.alloc (.cells news.toArray e)) := by
  obtain ⟨i0, hi, hz0, hz1, hz2⟩ := info_parts hinfo
  obtain ⟨v', w', hr, ho', hg, _, hloc⟩ := run_append_own_at (P := Tryz.prog) (wr.alloc (.cells news.toArray e)) B t o.type e i0 z size bytes ht hi hz0 hz1 hz2 hzs hsz v n xs (World.ownsRow.alloc hown _) ⟨wr.heap.size, 0, none⟩ 1 1 news (by omega)
    (fun j u hj => by
      rw [Go.WideShapes.add_plain, Nat.zero_add]
      simpa using hj)
    h1 (by unfold maxLen; omega) hlen (by simp; omega)
  have hform : ∃ a' cap', v' = .slice a' (n + 1) cap' := by
    rcases ho'.2 with ⟨_, hn⟩ | ⟨g, cap, cur, e, _⟩
    · omega
    · exact ⟨_, _, e⟩
  obtain ⟨a', cap', rfl⟩ := hform
  refine BigFrame.wpList_want hwant fun K hK => ?_
  unfold Oper.wp execOp
  simp only [ho, resolve, invoke, builtin, Sem.run_bind, Sem.run_pure, Result.andThen_ok, List.map_toArray, List.map_cons, List.map_nil, hs, hx, hr]
  refine hK _ _ (h a' cap' w' ho' ⟨hg.os, hg.tape, hg.output, Nat.le_trans (by simp) hg.size, fun k hk hn => (hg.block k (by simp; omega) hn).trans (Below.heap_alloc _ _ _ hk)⟩ ?_)
  rcases hloc with h | h
  · exact .inl h
  · exact .inr ⟨_, h, by simp⟩

theorem info225 : (Tryz.prog.info? 225).map (fun i => (i.zero, i.size, i.bytes)) = some (some (.agg #[.int .i64 0, .string ByteArray.empty]), 2, 24) := by kernel_rfl

variable {d : Nat} {m : Dk} {c fb lb : Nat} {ov : Value}

theorem pw_here (hg : m.gone = false) : pw m = m.left := by unfold pw; rw [if_neg (by rw [hg]; decide)]
theorem pw_gone (hg : m.gone = true) : pw m = -2 := by unfold pw; rw [if_pos hg]

theorem spend_any (w : World) (h : DiskAt w d m c fb lb ov) (hg : m.gone = false) :
    Calls Tryz.prog 105 #[.pointer (some ⟨d, 0, none⟩)] w fun e w' => e = .returned (.tuple #[]) ∧ DiskAt w' d { m with left := spent m.left } c fb lb ov ∧ Moves [d] w w' := by
  have h1 := h.cell1
  rw [pw_here hg] at h1
  have hok : Ok { m with left := spent m.left } := ⟨h.ok.old, h.ok.op, spent_in h.ok.left, h.ok.many⟩
  by_cases hp : 0 < m.left
  · refine (spend_some d m.left w h1 (h.free 1) hp h.ok.left.2).mono ?_
    rintro e w' ⟨he, rfl⟩
    refine ⟨he, h.power _ _ ?_ rfl rfl hok, Moves.set _ _ _ _ (by simp)⟩
    show (if m.gone = true then (-2 : Int) else spent m.left) = m.left - 1
    rw [hg, spent, if_neg (by decide), if_pos hp]
  · refine (spend_none d m.left w h1 hp).mono ?_
    rintro e w' ⟨he, rfl⟩
    have e1 : spent m.left = m.left := by unfold spent; rw [if_neg hp]
    refine ⟨he, ?_, Moves.refl _ _⟩
    rw [e1]
    exact h

set_option maxHeartbeats 1000000 in
set_option maxRecDepth 20000 in
theorem write_gone (n : Int) (data : ByteArray) (w : World) (h : DiskAt w d m c fb lb ov) (hg : m.gone = true) :
    Calls Tryz.prog 61 #[.pointer (some ⟨d, 0, none⟩), .int .i64 n, .string data] w fun e w' => e = .returned (.int .i64 30) ∧ w' = w := by
  have h1 := h.cell1
  rw [pw_gone hg] at h1
  have H1 := hide h1
  clear h1
  go_enter Tryz.func61, Tryz.ntmps61
  go_wp2_with (go_at_call 103; refine (fails_gone _ _ (unhide H1)).mono ?_; rintro e w' ⟨rfl, rfl⟩)
  go_ret
  exact ⟨rfl, rfl⟩
set_option maxHeartbeats 1000000 in
set_option maxRecDepth 20000 in
theorem write_now (n : Int) (data : ByteArray) (w : World) (h : DiskAt w d m c fb lb ov) (hg : m.gone = false) (hl : m.left = 0) :
    Calls Tryz.prog 61 #[.pointer (some ⟨d, 0, none⟩), .int .i64 n, .string data] w fun e w' => e = .returned (.int .i64 30) ∧ w' = w.setCell ⟨d, 1, none⟩ (.int .i64 (-2)) := by
  have h1 := h.cell1
  rw [pw_here hg, hl] at h1
  have H1 := hide h1
  have H2 := hide (h.free 1)
  clear h1
  go_enter Tryz.func61, Tryz.ntmps61
  go_wp2_with (go_at_call 103; refine (fails_now _ _ (unhide H1) (unhide H2)).mono ?_; rintro e w' ⟨rfl, rfl⟩)
  go_ret
  exact ⟨rfl, rfl⟩
set_option maxHeartbeats 1000000 in
set_option maxRecDepth 20000 in
theorem write_out (n : Int) (data : ByteArray) (w : World) (h : DiskAt w d m c fb lb ov) (hg : m.gone = false) (hl : m.left ≠ 0) (hn : n < 0 ∨ (m.old.length : Int) ≤ n) :
    Calls Tryz.prog 61 #[.pointer (some ⟨d, 0, none⟩), .int .i64 n, .string data] w fun e w' => e = .returned (.int .i64 31) ∧ w' = w := by
  have h1 := h.cell1
  rw [pw_here hg] at h1
  have H1 := hide h1
  have hl2 : m.left ≠ -2 := by have := h.ok.left; omega
  have H2 := hide hl
  have H3 := hide hl2
  have H0 := hide h.cell0
  have HN := hide hn
  clear h1 hl hl2 hn
  go_enter Tryz.func61, Tryz.ntmps61
  go_wp2_with (first | (go_at_call 103; refine (fails_not _ _ _ (unhide H1) (unhide H3) (unhide H2)).mono ?_; rintro e w' ⟨rfl, rfl⟩) | (go_at_call 104; refine (has_no _ _ _ _ (unhide H0) (unhide HN)).mono ?_; rintro e w' ⟨rfl, rfl⟩))
  go_ret
  exact ⟨rfl, rfl⟩
set_option maxHeartbeats 1000000 in
set_option maxRecDepth 20000 in
theorem write_size (n : Int) (data : ByteArray) (w : World) (h : DiskAt w d m c fb lb ov) (hg : m.gone = false) (hl : m.left ≠ 0) (hn0 : 0 ≤ n) (hn1 : n < (m.old.length : Int)) (hs : data.size ≠ 1024) :
    Calls Tryz.prog 61 #[.pointer (some ⟨d, 0, none⟩), .int .i64 n, .string data] w fun e w' => e = .returned (.int .i64 32) ∧ w' = w := by
  have h1 := h.cell1
  rw [pw_here hg] at h1
  have H1 := hide h1
  have hl2 : m.left ≠ -2 := by have := h.ok.left; omega
  have H2 := hide hl
  have H3 := hide hl2
  have H0 := hide h.cell0
  have HN := hide hn0
  have HM := hide hn1
  have hs' : (data.size : Int) ≠ 1024 := by omega
  clear h1 hl hl2 hn0 hn1
  go_enter Tryz.func61, Tryz.ntmps61
  go_wp2_with (first | (go_at_call 103; refine (fails_not _ _ _ (unhide H1) (unhide H3) (unhide H2)).mono ?_; rintro e w' ⟨rfl, rfl⟩) | (go_at_call 104; refine (has_yes _ _ _ _ (unhide H0) (unhide HN) (unhide HM)).mono ?_; rintro e w' ⟨rfl, rfl⟩))
  go_ret
  exact ⟨rfl, rfl⟩
end Go.Proofs.YtdelobaiicoogaaGreatDoor.L3
