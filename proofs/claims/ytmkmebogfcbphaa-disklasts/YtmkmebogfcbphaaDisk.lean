/- A disk of the program in memory, and its small functions. -/
import Derived.Test.YtmkmebogfcbphaaMaps
import Derived.Test.YtmkmebogfcbphaaClone
import Derived.Test.YtmkmebogfcbphaaRepeat
import Derived.Maps.AppendAt
namespace Go.Proofs.Ytmkmebogfcbphaa
open Go.ChangeShapes Go.WideShapes Go.ChangeAt Go.RowKit

/-- nothing but these blocks has turned -/
structure Moves (fp : List Nat) (w w' : World) : Prop where
  os : w'.os = w.os
  tape : w'.tape = w.tape
  output : w'.output = w.output
  size : w.heap.size ≤ w'.heap.size
  block : ∀ k, k < w.heap.size → k ∉ fp → w'.heap[k]? = w.heap[k]?

theorem Moves.refl (fp : List Nat) (w : World) : Moves fp w w := ⟨rfl, rfl, rfl, Nat.le_refl _, fun _ _ _ => rfl⟩
theorem Moves.of_below {w w' : World} (fp : List Nat) (h : Below w.heap.size w w') : Moves fp w w' := ⟨h.os, h.tape, h.output, h.size, fun k hk _ => h.block k hk⟩
theorem Moves.to_below {w w' : World} (h : Moves [] w w') : Below w.heap.size w w' := ⟨h.os, h.tape, h.output, h.size, fun k hk => h.block k hk List.not_mem_nil⟩
theorem Moves.of_grown {w w' : World} {r : Option Nat} {fp : List Nat} (h : w.grownBy w' r) (hr : ∀ k, r = some k → k ∈ fp) : Moves fp w w' :=
  ⟨h.os, h.tape, h.output, h.size, fun k hk hn => h.block k hk (fun e => hn (hr k e.symm))⟩
theorem Moves.trans {fp fq : List Nat} {w w1 w2 : World} (h : Moves fp w w1) (k : Moves fq w1 w2) (hq : ∀ x ∈ fq, x ∈ fp ∨ w.heap.size ≤ x) : Moves fp w w2 :=
  ⟨k.os.trans h.os, k.tape.trans h.tape, k.output.trans h.output, Nat.le_trans h.size k.size, fun i hi hn => (k.block i (Nat.lt_of_lt_of_le hi h.size) (fun hm => by
    rcases hq i hm with h1 | h1
    · exact hn h1
    · omega)).trans (h.block i hi hn)⟩
theorem Moves.then {fp : List Nat} {w w1 w2 : World} (h : Moves fp w w1) (k : Moves fp w1 w2) : Moves fp w w2 := h.trans k (fun _ hx => .inl hx)
theorem Moves.mono {fp fq : List Nat} {w w1 : World} (h : Moves fp w w1) (hs : ∀ x ∈ fp, x ∈ fq ∨ w.heap.size ≤ x) : Moves fq w w1 := (Moves.refl fq w).trans h hs
theorem Moves.below {fp : List Nat} {B : Nat} {w0 w w' : World} (h0 : Below B w0 w) (h : Moves fp w w') (hfp : ∀ x ∈ fp, B ≤ x) (hB : B ≤ w.heap.size) : Below B w0 w' :=
  h0.trans ⟨h.os, h.tape, h.output, h.size, fun k hk => h.block k (by omega) (fun hm => by have := hfp k hm; omega)⟩
theorem Moves.set (w : World) (g j : Nat) (u : Value) {fp : List Nat} (hg : g ∈ fp) : Moves fp w (w.setCell ⟨g, j, none⟩ u) :=
  ⟨rfl, rfl, rfl, by simp, fun k _ hn => Below.heap_setCell w ⟨g, j, none⟩ u k (fun e => hn (by rw [e]; exact hg))⟩
theorem Moves.cell {fp : List Nat} {w w' : World} (h : Moves fp w w') {a : Addr} {v : Value} (hc : w.cell? a = some v) (hn : a.block ∉ fp) : w'.cell? a = some v :=
  (World.cell?_of_block (h.block a.block (World.block_lt_of_cell? w a hc) hn)).trans hc

/-- the power as the program has it -/
def pw (m : Dk) : Int := if m.gone = true then -2 else m.left

def opCells (op : List (Nat × ByteArray)) : List Value := op.flatMap fun p => [.int .i64 (p.1 : Int), .string p.2]
theorem opCells_snoc (op : List (Nat × ByteArray)) (p : Nat × ByteArray) : opCells (op ++ [p]) = opCells op ++ [.int .i64 (p.1 : Int), .string p.2] := by
  simp [opCells]
theorem opCells_length (op : List (Nat × ByteArray)) : (opCells op).length = op.length * 2 := by
  induction op with
  | nil => rfl
  | cons p r ih =>
    have e : opCells (p :: r) = .int .i64 (p.1 : Int) :: .string p.2 :: opCells r := rfl
    rw [e, List.length_cons, List.length_cons, List.length_cons, ih]
    omega
theorem opCells_at (op : List (Nat × ByteArray)) : ∀ (j : Nat) (h : j < op.length), (opCells op)[j * 2]? = some (.int .i64 (op[j].1 : Int)) ∧ (opCells op)[j * 2 + 1]? = some (.string op[j].2) := by
  induction op with
  | nil => intro j h; simp at h
  | cons p r ih =>
    intro j h
    have e : opCells (p :: r) = .int .i64 (p.1 : Int) :: .string p.2 :: opCells r := rfl
    match j, h with
    | 0, _ => rw [e]; exact ⟨rfl, rfl⟩
    | j + 1, h =>
      have := ih j (by simp at h; omega)
      rw [e, show (j + 1) * 2 = j * 2 + 1 + 1 by omega, List.getElem?_cons_succ, List.getElem?_cons_succ, List.getElem?_cons_succ, List.getElem?_cons_succ]
      exact this

/-- a disk in memory -/
structure DiskAt (w : World) (d : Nat) (m : Dk) (c fb lb : Nat) (ov : Value) : Prop where
  blk : w.heap[d]? = some (.cells #[.int .i64 (m.old.length : Int), .int .i64 (pw m), .map (some fb), .map (some lb), ov] 68 (0, 0))
  fl : ∃ F nf, Sec w fb nf F ∧ nf + m.op.length ≤ c ∧ ∀ i, i < m.old.length → (F i).getD zeros = m.old.getD i ByteArray.empty
  la : ∃ L, Sec w lb m.op.length L ∧ ∀ i, i < m.old.length → L i = lastW m.op i
  op : w.ownsRow 0 76 2 ov m.op.length (opCells m.op)
  ne : fb ≠ lb
  nd : ov.ownBlock ≠ some d
  ok : Ok m

def fpOf (d fb lb : Nat) (ov : Value) : List Nat := d :: fb :: lb :: ov.ownBlock.toList

variable {w w' : World} {d : Nat} {m : Dk} {c fb lb : Nat} {ov : Value}

theorem DiskAt.cell0 (h : DiskAt w d m c fb lb ov) : w.cell? ⟨d, 0, none⟩ = some (.int .i64 (m.old.length : Int)) := by simp [World.cell?, h.blk]
theorem DiskAt.cell1 (h : DiskAt w d m c fb lb ov) : w.cell? ⟨d, 1, none⟩ = some (.int .i64 (pw m)) := by simp [World.cell?, h.blk]
theorem DiskAt.cell2 (h : DiskAt w d m c fb lb ov) : w.cell? ⟨d, 2, none⟩ = some (.map (some fb)) := by simp [World.cell?, h.blk]
theorem DiskAt.cell3 (h : DiskAt w d m c fb lb ov) : w.cell? ⟨d, 3, none⟩ = some (.map (some lb)) := by simp [World.cell?, h.blk]
theorem DiskAt.cell4 (h : DiskAt w d m c fb lb ov) : w.cell? ⟨d, 4, none⟩ = some ov := by simp [World.cell?, h.blk]
theorem DiskAt.free (h : DiskAt w d m c fb lb ov) (i : Nat) : w.frozen? ⟨d, i, none⟩ = false := by simp [World.frozen?, h.blk]
theorem DiskAt.dlt (h : DiskAt w d m c fb lb ov) : d < w.heap.size := (Array.getElem?_eq_some_iff.1 h.blk).1
theorem DiskAt.lt (h : DiskAt w d m c fb lb ov) : ∀ x ∈ fpOf d fb lb ov, x < w.heap.size := by
  intro x hx
  simp [fpOf] at hx
  obtain ⟨F, nf, h1, _⟩ := h.fl
  obtain ⟨L, h2, _⟩ := h.la
  rcases hx with rfl | rfl | rfl | hx
  · exact h.dlt
  · exact h1.lt
  · exact h2.lt
  · exact (h.op.lt x hx).2
theorem DiskAt.df (h : DiskAt w d m c fb lb ov) : d ≠ fb := by
  intro e
  obtain ⟨F, nf, h1, _⟩ := h.fl
  obtain ⟨es, cl, h1⟩ := h1.kind
  have h0 := h.blk
  rw [e, h1] at h0
  cases h0
theorem DiskAt.dl (h : DiskAt w d m c fb lb ov) : d ≠ lb := by
  intro e
  obtain ⟨F, h1, _⟩ := h.la
  obtain ⟨es, cl, h1⟩ := h1.kind
  have h0 := h.blk
  rw [e, h1] at h0
  cases h0
theorem ownsRow_kind {b : Nat} {e : TypeId} {size : Nat} {v : Value} {n : Nat} {xs : List Value} {g : Nat} (h : w.ownsRow b e size v n xs) (hv : v.ownBlock = some g) : ∃ cur, w.heap[g]? = some (.cells cur e (0, 0)) := by
  rcases h.2 with ⟨rfl, _⟩ | ⟨g', cap, cur, rfl, _, hg, _⟩
  · simp [Value.ownBlock] at hv
  · simp [Value.ownBlock] at hv
    subst hv
    exact ⟨cur, hg⟩
theorem DiskAt.of (h : DiskAt w d m c fb lb ov) : ov.ownBlock ≠ some fb := by
  intro e
  obtain ⟨cur, h0⟩ := ownsRow_kind h.op e
  obtain ⟨F, nf, h1, _⟩ := h.fl
  obtain ⟨es, cl, h1⟩ := h1.kind
  rw [h1] at h0
  cases h0
theorem DiskAt.ol (h : DiskAt w d m c fb lb ov) : ov.ownBlock ≠ some lb := by
  intro e
  obtain ⟨cur, h0⟩ := ownsRow_kind h.op e
  obtain ⟨F, h1, _⟩ := h.la
  obtain ⟨es, cl, h1⟩ := h1.kind
  rw [h1] at h0
  cases h0
theorem ownsRow_same {b : Nat} {e : TypeId} {size : Nat} {v : Value} {n : Nat} {xs : List Value} (h : w.ownsRow b e size v n xs) (hs : ∀ g, v.ownBlock = some g → w'.heap[g]? = w.heap[g]?) : w'.ownsRow b e size v n xs := by
  refine ⟨h.1, ?_⟩
  rcases h.2 with hn | ⟨g, cap, cur, rfl, hb, hgg, rest⟩
  · exact .inl hn
  · exact .inr ⟨g, cap, cur, rfl, hb, (hs g rfl).trans hgg, rest⟩
theorem DiskAt.same (h : DiskAt w d m c fb lb ov) (hs : ∀ x ∈ fpOf d fb lb ov, w'.heap[x]? = w.heap[x]?) : DiskAt w' d m c fb lb ov := by
  obtain ⟨F, nf, h1, r1⟩ := h.fl
  obtain ⟨L, h2, r2⟩ := h.la
  exact ⟨(hs d (by simp [fpOf])).trans h.blk, ⟨F, nf, h1.same (hs fb (by simp [fpOf])), r1⟩, ⟨L, h2.same (hs lb (by simp [fpOf])), r2⟩, ownsRow_same h.op (fun g hg => hs g (by simp [fpOf, hg])), h.ne, h.nd, h.ok⟩
theorem DiskAt.keep {fq : List Nat} (h : DiskAt w d m c fb lb ov) (hm : Moves fq w w') (hd : ∀ x ∈ fpOf d fb lb ov, x ∉ fq) : DiskAt w' d m c fb lb ov :=
  h.same (fun x hx => hm.block x (h.lt x hx) (hd x hx))
theorem DiskAt.grow (h : DiskAt w d m c fb lb ov) (hm : Below w.heap.size w w') : DiskAt w' d m c fb lb ov :=
  h.same (fun x hx => hm.block x (h.lt x hx))
/-- another power -/
theorem DiskAt.power (h : DiskAt w d m c fb lb ov) (m' : Dk) (p : Int) (hp : pw m' = p) (ho : m'.old = m.old) (hop : m'.op = m.op) (hok : Ok m') : DiskAt (w.setCell ⟨d, 1, none⟩ (.int .i64 p)) d m' c fb lb ov := by
  have hm : Moves [d] w (w.setCell ⟨d, 1, none⟩ (.int .i64 p)) := Moves.set w d 1 _ (by simp)
  obtain ⟨F, nf, h1, r1⟩ := h.fl
  obtain ⟨L, h2, r2⟩ := h.la
  refine ⟨?_, ⟨F, nf, h1.same (hm.block _ h1.lt (by have := h.df; simp; omega)), by rw [ho, hop]; exact r1⟩, ⟨L, by rw [hop]; exact h2.same (hm.block _ h2.lt (by have := h.dl; simp; omega)), by rw [ho, hop]; exact r2⟩, ?_, h.ne, h.nd, hok⟩
  · rw [ho, hp]
    simp [World.setCell, Array.getElem?_modify, h.blk]
  · rw [hop]
    exact ownsRow_same h.op (fun g hg => hm.block g (h.op.lt g hg).2 (by simp; intro e; subst e; exact h.nd hg))

/-! the small functions -/
set_option maxHeartbeats 400000 in
theorem has_yes (d : Nat) (n N : Int) (w : World) (h0 : w.cell? ⟨d, 0, none⟩ = some (.int .i64 N)) (h1 : 0 ≤ n) (h2 : n < N) :
    Calls Try.prog 33 #[.pointer (some ⟨d, 0, none⟩), .int .i64 n] w fun e w' => e = .returned (.bool true) ∧ w' = w := by
  go_enter Try.func33, Try.ntmps33
  go_wp2
  go_ret
  exact ⟨rfl, rfl⟩
set_option maxHeartbeats 400000 in
theorem has_no (d : Nat) (n N : Int) (w : World) (h0 : w.cell? ⟨d, 0, none⟩ = some (.int .i64 N)) (h : n < 0 ∨ N ≤ n) :
    Calls Try.prog 33 #[.pointer (some ⟨d, 0, none⟩), .int .i64 n] w fun e w' => e = .returned (.bool false) ∧ w' = w := by
  by_cases h1 : n < 0
  · have h2 : ¬ 0 ≤ n := by omega
    go_enter Try.func33, Try.ntmps33
    go_wp2
    go_ret
    simp
  · have h2 : 0 ≤ n := by omega
    have h3 : ¬ n < N := by omega
    go_enter Try.func33, Try.ntmps33
    go_wp2
    go_ret
    exact ⟨rfl, rfl⟩
set_option maxHeartbeats 400000 in
theorem fails_gone (d : Nat) (w : World) (h1 : w.cell? ⟨d, 1, none⟩ = some (.int .i64 (-2))) :
    Calls Try.prog 36 #[.pointer (some ⟨d, 0, none⟩)] w fun e w' => e = .returned (.bool true) ∧ w' = w := by
  go_enter Try.func36, Try.ntmps36
  go_wp2
  go_ret
  exact ⟨rfl, rfl⟩
set_option maxHeartbeats 400000 in
theorem fails_now (d : Nat) (w : World) (h1 : w.cell? ⟨d, 1, none⟩ = some (.int .i64 0)) (hf : w.frozen? ⟨d, 1, none⟩ = false) :
    Calls Try.prog 36 #[.pointer (some ⟨d, 0, none⟩)] w fun e w' => e = .returned (.bool true) ∧ w' = w.setCell ⟨d, 1, none⟩ (.int .i64 (-2)) := by
  go_enter Try.func36, Try.ntmps36
  go_wp2
  go_ret
  exact ⟨rfl, rfl⟩
set_option maxHeartbeats 400000 in
theorem fails_not (d : Nat) (p : Int) (w : World) (h1 : w.cell? ⟨d, 1, none⟩ = some (.int .i64 p)) (h2 : p ≠ -2) (h3 : p ≠ 0) :
    Calls Try.prog 36 #[.pointer (some ⟨d, 0, none⟩)] w fun e w' => e = .returned (.bool false) ∧ w' = w := by
  go_enter Try.func36, Try.ntmps36
  go_wp2
  go_ret
  exact ⟨rfl, rfl⟩
set_option maxHeartbeats 400000 in
theorem spend_some (d : Nat) (p : Int) (w : World) (h1 : w.cell? ⟨d, 1, none⟩ = some (.int .i64 p)) (hf : w.frozen? ⟨d, 1, none⟩ = false) (h2 : 0 < p) (h3 : p ≤ 9223372036854775807) :
    Calls Try.prog 37 #[.pointer (some ⟨d, 0, none⟩)] w fun e w' => e = .returned (.tuple #[]) ∧ w' = w.setCell ⟨d, 1, none⟩ (.int .i64 (p - 1)) := by
  have hw : IntKind.i64.wrap (p - 1) = p - 1 := by rw [IntKind.wrap_i64]; omega
  go_enter Try.func37, Try.ntmps37
  go_wp2
  go_end0
  exact ⟨rfl, rfl⟩
set_option maxHeartbeats 400000 in
theorem spend_none (d : Nat) (p : Int) (w : World) (h1 : w.cell? ⟨d, 1, none⟩ = some (.int .i64 p)) (h2 : ¬ 0 < p) :
    Calls Try.prog 37 #[.pointer (some ⟨d, 0, none⟩)] w fun e w' => e = .returned (.tuple #[]) ∧ w' = w := by
  go_enter Try.func37, Try.ntmps37
  go_wp2
  go_end0
  exact ⟨rfl, rfl⟩
end Go.Proofs.Ytmkmebogfcbphaa
