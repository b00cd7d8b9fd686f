/- Texts that the proof needs, one behind the other. -/
import Derived.Test.YtdelobaiicoogaaGreatDoorMaa
import Derived.Test.YtdelobaiicoogaaGreatDoorMaj
import Derived.Test.YtdelobaiicoogaaGreatDoorMal
import Derived.Test.YtdelobaiicoogaaGreatDoorMam
/- A heap of the program in memory. -/
namespace Go.Proofs.YtdelobaiicoogaaGreatDoor
open Go.ChangeShapes Go.WideShapes Go.ChangeAt Go.RowKit

abbrev Moves := L5.Moves
theorem hide {p : Prop} (h : p) : Hid p := h
theorem unhide {p : Prop} (h : Hid p) : p := h
theorem mv53 {fp : List Nat} {w w' : World} (h : L3.Moves fp w w') : Moves fp w w' := ⟨h.os, h.tape, h.output, h.size, h.block⟩
theorem mv35 {fp : List Nat} {w w' : World} (h : Moves fp w w') : L3.Moves fp w w' := ⟨h.os, h.tape, h.output, h.size, h.block⟩

def intV (n : Int) : Value := .int .i64 n
/-- a slice of numbers in memory that nobody turns -/
def Ints (w : World) (v : Value) (l : List Int) : Prop := w.ownsRow 0 3 1 v l.length (l.map intV)

theorem Ints.same {w w' : World} {v : Value} {l : List Int} (h : Ints w v l) (hs : ∀ g, v.ownBlock = some g → w'.heap[g]? = w.heap[g]?) : Ints w' v l := L3.ownsRow_same h hs
theorem Ints.lt {w : World} {v : Value} {l : List Int} (h : Ints w v l) : ∀ g, v.ownBlock = some g → g < w.heap.size := fun g hg => (World.ownsRow.lt h g hg).2
theorem Ints.kind {w : World} {v : Value} {l : List Int} {g : Nat} (h : Ints w v l) (hv : v.ownBlock = some g) : ∃ cur, w.heap[g]? = some (.cells cur 3 (0, 0)) := L3.ownsRow_kind h hv
theorem Ints.grow {w w' : World} {v : Value} {l : List Int} (h : Ints w v l) (hb : Below w.heap.size w w') : Ints w' v l := h.same (fun g hg => hb.block g (h.lt g hg))
/-- where a slice's row lies -/
theorem row_some {w : World} {e : TypeId} {size : Nat} {v : Value} {n : Nat} {xs : List Value} (h : w.ownsRow 0 e size v n xs) (hn : 0 < n) : ∃ g cap, v = .slice (some ⟨g, 0, none⟩) n cap ∧ g < w.heap.size ∧ n ≤ cap := by
  rcases h.2 with ⟨_, h0⟩ | ⟨g, cap, cur, rfl, _, hg, hc, _⟩
  · omega
  · exact ⟨g, cap, rfl, (Array.getElem?_eq_some_iff.1 hg).1, hc⟩
theorem row_cell {w : World} {e : TypeId} {size : Nat} {g n cap : Nat} {xs : List Value} (h : w.ownsRow 0 e size (.slice (some ⟨g, 0, none⟩) n cap) n xs) (j : Nat) (u : Value) (hj : xs[j]? = some u) : w.cell? ⟨g, j, none⟩ = some u := by
  have := h.cells (g := g) rfl j u hj
  rw [Go.WideShapes.add_plain, Nat.zero_add] at this
  exact this
theorem Ints.form {w : World} {v : Value} {l : List Int} (h : Ints w v l) : ∃ a cap, v = .slice a l.length cap := L3.ownsRow_form h
theorem Ints.at {w : World} {a : Option Addr} {cap : Nat} {l : List Int} (h : Ints w (.slice a l.length cap) l) (k : Nat) (hk : k < l.length) : ∃ g, a = some ⟨g, 0, none⟩ ∧ w.cell? ⟨g, k, none⟩ = some (.int .i64 l[k]) := by
  obtain ⟨g, cap', e, _, _⟩ := row_some h (by omega)
  injection e with e1 e2 e3
  subst e1 e3
  exact ⟨g, rfl, row_cell h k _ (by rw [List.getElem?_map, List.getElem?_eq_getElem hk]; rfl)⟩
theorem Ints.nil (w : World) : Ints w (.slice none 0 0) [] := World.ownsRow_nil w 0 3 1
theorem Ints.reads {w : World} {v : Value} {l : List Int} (h : Ints w v l) : ∃ d, slR v = some (d, []) := by
  rcases h.2 with ⟨rfl, _⟩ | ⟨g, cap, cur, rfl, _⟩
  · exact ⟨_, rfl⟩
  · exact ⟨_, rfl⟩

/-- the kids of a place, as the program has them -/
def Kid (w : World) (o : Option Value) (l : List Int) : Prop := match o with
  | none => l = []
  | some v => Ints w v l
theorem Kid.get {w : World} {o : Option Value} {l : List Int} (h : Kid w o l) : Ints w (o.getD (.slice none 0 0)) l := by
  cases o with
  | none =>
    have e : l = [] := h
    subst e
    exact Ints.nil w
  | some v => exact h

/-- a heap in memory -/
structure HeapAt (w : World) (p d : Nat) (h : Hp) (c : Nat) (a b kb : Nat) (fd : List Nat) (kf : Nat → Option Value) : Prop where
  blk : w.heap[p]? = some (.cells #[.pointer (some ⟨a, 0, none⟩), .pointer (some ⟨d, 0, none⟩), .int .i64 h.gen, .map (some kb)] 86 (0, 0))
  al : L5.AllocAt w a b 2 h.al
  dk : L3.IsDisk w d h.dk c fd
  km : Vm slR w kb c kf
  kid : ∀ q, q < 4096 → Kid w (kf q) (h.kids q)
  bk : b ≠ kb
  bd : b ∉ fd
  kd : kb ∉ fd
  gen : 0 ≤ h.gen ∧ h.gen ≤ 1152921504606846976
  len : 2 + h.al.length = h.dk.old.length
  tab : L4.Tab w
  pos : 0 < p ∧ 0 < a ∧ 0 < b ∧ 0 < kb ∧ ∀ x ∈ fd, 0 < x

def foot (p a b kb : Nat) (fd : List Nat) : List Nat := p :: a :: b :: kb :: fd

/-- the kinds of a disk's blocks -/
theorem disk_kinds {w : World} {d : Nat} {m : L3.Dk} {c : Nat} {fd : List Nat} (h : L3.IsDisk w d m c fd) {x : Nat} (hx : x ∈ fd) : (∃ es cl, w.heap[x]? = some (.map es cl)) ∨ (∃ cs, w.heap[x]? = some (.cells cs 210 (0, 0))) ∨ ∃ cs, w.heap[x]? = some (.cells cs 225 (0, 0)) := by
  obtain ⟨fb, lb, ov, h, rfl⟩ := h
  simp [L3.fpOf] at hx
  obtain ⟨F, nf, h1, _⟩ := h.fl
  obtain ⟨L, h2, _⟩ := h.la
  rcases hx with rfl | rfl | rfl | hx
  · exact .inr (.inl ⟨_, h.blk⟩)
  · exact .inl h1.kind
  · exact .inl h2.kind
  · exact .inr (.inr (L3.ownsRow_kind h.op hx))

variable {w w' : World} {p d : Nat} {h : Hp} {c a b kb : Nat} {fd : List Nat} {kf : Nat → Option Value}

theorem HeapAt.plt (H : HeapAt w p d h c a b kb fd kf) : p < w.heap.size := (Array.getElem?_eq_some_iff.1 H.blk).1
theorem HeapAt.lt (H : HeapAt w p d h c a b kb fd kf) : ∀ x ∈ foot p a b kb fd, x < w.heap.size := by
  intro x hx
  simp only [foot, List.mem_cons] at hx
  rcases hx with rfl | rfl | rfl | rfl | hx
  · exact H.plt
  · exact H.al.dlt
  · exact H.al.map.lt
  · exact H.km.lt
  · exact H.dk.lt x hx
theorem HeapAt.zero (H : HeapAt w p d h c a b kb fd kf) : 0 ∉ foot p a b kb fd := by
  intro hx
  simp only [foot, List.mem_cons] at hx
  obtain ⟨h1, h2, h3, h4, h5⟩ := H.pos
  rcases hx with e | e | e | e | e
  · omega
  · omega
  · omega
  · omega
  · exact absurd (h5 0 e) (by omega)
/-- a row of kids is none of the heap's own blocks -/
theorem HeapAt.row (H : HeapAt w p d h c a b kb fd kf) {v : Value} {l : List Int} (hv : Ints w v l) {g : Nat} (hg : v.ownBlock = some g) : g ∉ foot p a b kb fd := by
  intro hx
  obtain ⟨cur, hk⟩ := hv.kind hg
  simp only [foot, List.mem_cons] at hx
  rcases hx with rfl | rfl | rfl | rfl | hx
  · have := H.blk; rw [hk] at this; injection this with this; injection this with _ this; exact absurd this (by decide)
  · have := H.al.blk; rw [hk] at this; injection this with this; injection this with _ this; exact absurd this (by decide)
  · obtain ⟨es, cl, this⟩ := H.al.map.kind; rw [hk] at this; cases this
  · obtain ⟨es, cl, this⟩ := H.km.kind; rw [hk] at this; cases this
  · rcases disk_kinds H.dk hx with ⟨es, cl, this⟩ | ⟨cs, this⟩ | ⟨cs, this⟩
    · rw [hk] at this; cases this
    · rw [hk] at this; injection this with this; injection this with _ this; exact absurd this (by decide)
    · rw [hk] at this; injection this with this; injection this with _ this; exact absurd this (by decide)
theorem HeapAt.pb (H : HeapAt w p d h c a b kb fd kf) : p ≠ b := by
  rintro rfl
  obtain ⟨es, cl, this⟩ := H.al.map.kind; rw [H.blk] at this; cases this
theorem HeapAt.pk (H : HeapAt w p d h c a b kb fd kf) : p ≠ kb := by
  rintro rfl
  obtain ⟨es, cl, this⟩ := H.km.kind; rw [H.blk] at this; cases this
theorem HeapAt.ak (H : HeapAt w p d h c a b kb fd kf) : a ≠ kb := by
  rintro rfl
  obtain ⟨es, cl, this⟩ := H.km.kind; rw [H.al.blk] at this; cases this
theorem HeapAt.pd (H : HeapAt w p d h c a b kb fd kf) : p ∉ fd := by
  intro hx
  have hk := H.blk
  rcases disk_kinds H.dk hx with ⟨es, cl, this⟩ | ⟨cs, this⟩ | ⟨cs, this⟩
  · rw [hk] at this; cases this
  · rw [hk] at this; injection this with this; injection this with _ this; exact absurd this (by decide)
  · rw [hk] at this; injection this with this; injection this with _ this; exact absurd this (by decide)
theorem HeapAt.ad (H : HeapAt w p d h c a b kb fd kf) : a ∉ fd := by
  intro hx
  have hk := H.al.blk
  rcases disk_kinds H.dk hx with ⟨es, cl, this⟩ | ⟨cs, this⟩ | ⟨cs, this⟩
  · rw [hk] at this; cases this
  · rw [hk] at this; injection this with this; injection this with _ this; exact absurd this (by decide)
  · rw [hk] at this; injection this with this; injection this with _ this; exact absurd this (by decide)
theorem HeapAt.cell0 (H : HeapAt w p d h c a b kb fd kf) : w.cell? ⟨p, 0, none⟩ = some (.pointer (some ⟨a, 0, none⟩)) := by simp [World.cell?, H.blk]
theorem HeapAt.cell1 (H : HeapAt w p d h c a b kb fd kf) : w.cell? ⟨p, 1, none⟩ = some (.pointer (some ⟨d, 0, none⟩)) := by simp [World.cell?, H.blk]
theorem HeapAt.cell2 (H : HeapAt w p d h c a b kb fd kf) : w.cell? ⟨p, 2, none⟩ = some (.int .i64 h.gen) := by simp [World.cell?, H.blk]
theorem HeapAt.cell3 (H : HeapAt w p d h c a b kb fd kf) : w.cell? ⟨p, 3, none⟩ = some (.map (some kb)) := by simp [World.cell?, H.blk]

theorem tab_keep {fq : List Nat} (hT : L4.Tab w) (hm : Moves fq w w') (h0 : 0 ∉ fq) : L4.Tab w' := fun i hi =>
  (World.cell?_of_block (hm.block 0 (World.block_lt_of_cell? w ⟨0, i, none⟩ (hT i hi)) h0)).trans (hT i hi)
theorem Kid.same {o : Option Value} {l : List Int} (hk : Kid w o l) (hs : ∀ v, o = some v → ∀ g, v.ownBlock = some g → w'.heap[g]? = w.heap[g]?) : Kid w' o l := by
  cases o with
  | none => exact hk
  | some v => exact Ints.same hk (hs v rfl)
theorem HeapAt.kids (H : HeapAt w p d h c a b kb fd kf) {fq : List Nat} (hm : Moves fq w w') (hd : ∀ x ∈ fq, x ∈ foot p a b kb fd ∨ w.heap.size ≤ x) : ∀ q, q < 4096 → Kid w' (kf q) (h.kids q) := by
  intro q hq
  refine (H.kid q hq).same (fun v hv g hg => ?_)
  have hI : Ints w v (h.kids q) := by have := H.kid q hq; rw [hv] at this; exact this
  refine hm.block g (hI.lt g hg) (fun hx => ?_)
  rcases hd g hx with h1 | h1
  · exact H.row hI hg h1
  · have := hI.lt g hg; omega
/-- what turned is elsewhere -/
theorem HeapAt.keep {fq : List Nat} (H : HeapAt w p d h c a b kb fd kf) (hm : Moves fq w w') (hd : ∀ x ∈ fq, x ∉ foot p a b kb fd) (h0 : 0 ∉ fq) (hk : ∀ q, q < 4096 → Kid w' (kf q) (h.kids q)) : HeapAt w' p d h c a b kb fd kf := by
  have hn : ∀ x ∈ foot p a b kb fd, x ∉ fq := fun x hx hq => hd x hq hx
  exact ⟨(hm.block p H.plt (hn p (by simp [foot]))).trans H.blk, H.al.keep hm (hn a (by simp [foot])) (hn b (by simp [foot])), H.dk.keep (mv35 hm) (fun x hx => hn x (by simp [foot, hx])), H.km.same (hm.block kb H.km.lt (hn kb (by simp [foot]))), hk, H.bk, H.bd, H.kd, H.gen, H.len, tab_keep H.tab hm h0, H.pos⟩
theorem HeapAt.grow (H : HeapAt w p d h c a b kb fd kf) (hb : Below w.heap.size w w') : HeapAt w' p d h c a b kb fd kf :=
  H.keep (L5.Moves.of_below [] hb) (fun _ hx => absurd hx List.not_mem_nil) List.not_mem_nil (H.kids (L5.Moves.of_below [] hb) (fun _ hx => absurd hx List.not_mem_nil))
theorem HeapAt.mono {c' : Nat} (H : HeapAt w p d h c a b kb fd kf) (hc : c ≤ c') : HeapAt w p d h c' a b kb fd kf :=
  ⟨H.blk, H.al, H.dk.mono hc, H.km.mono hc, H.kid, H.bk, H.bd, H.kd, H.gen, H.len, H.tab, H.pos⟩
/-- the allocator has turned -/
theorem HeapAt.alloc (H : HeapAt w p d h c a b kb fd kf) {l : List L5.St} (hm : Moves [b] w w') (ha : L5.AllocAt w' a b 2 l) (hl : l.length = h.al.length) : HeapAt w' p d { h with al := l } c a b kb fd kf := by
  have h0 : 0 ∉ [b] := by have := H.pos.2.2.1; simp; omega
  exact ⟨(hm.block p H.plt (by have := H.pb; simp; exact this)).trans H.blk, ha, H.dk.keep (mv35 hm) (fun x hx hq => H.bd (by simp at hq; rw [← hq]; exact hx)), H.km.same (hm.block kb H.km.lt (by have := H.bk; simp; exact fun e => this e.symm)), H.kids hm (fun x hx => .inl (by simp at hx; simp [foot, hx])), H.bk, H.bd, H.kd, H.gen, by show 2 + l.length = _; rw [hl]; exact H.len, tab_keep H.tab hm h0, H.pos⟩
/-- the disk has turned -/
theorem HeapAt.disk (H : HeapAt w p d h c a b kb fd kf) {m : L3.Dk} {c' : Nat} (hm : L3.Turned w w' d m c' fd) (hl : m.old.length = h.dk.old.length) (hc : c ≤ c') : ∃ fd', HeapAt w' p d { h with dk := m } c' a b kb fd' kf ∧ Moves fd w w' ∧ ∀ x ∈ fd', x ∈ fd ∨ w.heap.size ≤ x := by
  obtain ⟨fd', hd', hm', hf⟩ := hm
  have hm' := mv53 hm'
  have h0 : 0 ∉ fd := fun hx => absurd (H.pos.2.2.2.2 0 hx) (by omega)
  have hne : ∀ x, x < w.heap.size → x ∉ fd → x ∉ fd' := fun x hx hn hq => by
    rcases hf x hq with h1 | h1
    · exact hn h1
    · omega
  refine ⟨fd', ⟨(hm'.block p H.plt H.pd).trans H.blk, H.al.keep hm' H.ad H.bd, hd', (H.km.same (hm'.block kb H.km.lt H.kd)).mono hc, H.kids hm' (fun x hx => .inl (by simp [foot, hx])), H.bk, hne b H.al.map.lt H.bd, hne kb H.km.lt H.kd, H.gen, by rw [hl]; exact H.len, tab_keep H.tab hm' h0, H.pos.1, H.pos.2.1, H.pos.2.2.1, H.pos.2.2.2.1, fun x hx => ?_⟩, hm', hf⟩
  rcases hf x hx with h1 | h1
  · exact H.pos.2.2.2.2 x h1
  · have := H.plt; omega

/-- a heap, its blocks at hand -/
def IsHeap (w : World) (p d : Nat) (h : Hp) (c : Nat) (F : List Nat) : Prop := ∃ a b kb fd kf, HeapAt w p d h c a b kb fd kf ∧ F = foot p a b kb fd
/-- what a call does to a heap: it is this one now, and nothing else has turned -/
def HTurned (w w' : World) (p d : Nat) (h : Hp) (c : Nat) (F : List Nat) : Prop := ∃ F', IsHeap w' p d h c F' ∧ Moves F w w' ∧ ∀ x ∈ F', x ∈ F ∨ w.heap.size ≤ x
variable {F : List Nat}
theorem IsHeap.lt (H : IsHeap w p d h c F) : ∀ x ∈ F, x < w.heap.size := by
  obtain ⟨a, b, kb, fd, kf, H, rfl⟩ := H
  exact H.lt
theorem IsHeap.zero (H : IsHeap w p d h c F) : 0 ∉ F := by
  obtain ⟨a, b, kb, fd, kf, H, rfl⟩ := H
  exact H.zero
theorem IsHeap.tab (H : IsHeap w p d h c F) : L4.Tab w := by
  obtain ⟨a, b, kb, fd, kf, H, rfl⟩ := H
  exact H.tab
theorem IsHeap.grow (H : IsHeap w p d h c F) (hb : Below w.heap.size w w') : IsHeap w' p d h c F := by
  obtain ⟨a, b, kb, fd, kf, H, rfl⟩ := H
  exact ⟨a, b, kb, fd, kf, H.grow hb, rfl⟩
theorem IsHeap.mono (H : IsHeap w p d h c F) {c' : Nat} (hc : c ≤ c') : IsHeap w p d h c' F := by
  obtain ⟨a, b, kb, fd, kf, H, rfl⟩ := H
  exact ⟨a, b, kb, fd, kf, H.mono hc, rfl⟩
theorem IsHeap.stays (H : IsHeap w p d h c F) (hb : Below w.heap.size w w') : HTurned w w' p d h c F := ⟨F, H.grow hb, L5.Moves.of_below _ hb, fun _ hx => .inl hx⟩
theorem HTurned.then {w1 w2 : World} {h2 : Hp} {c2 : Nat} {F1 : List Nat} (hm : Moves F w w1) (hf : ∀ x ∈ F1, x ∈ F ∨ w.heap.size ≤ x) (k : HTurned w1 w2 p d h2 c2 F1) : HTurned w w2 p d h2 c2 F := by
  obtain ⟨F2, k1, k2, k3⟩ := k
  refine ⟨F2, k1, hm.trans k2 hf, fun x hx => ?_⟩
  rcases k3 x hx with h1 | h1
  · exact hf x h1
  · exact .inr (Nat.le_trans hm.size h1)
theorem HTurned.below {B : Nat} {w0 : World} (h0 : Below B w0 w) (k : HTurned w w' p d h c F) (hF : ∀ x ∈ F, B ≤ x) (hB : B ≤ w.heap.size) : Below B w0 w' := by
  obtain ⟨F2, k1, k2, k3⟩ := k
  exact k2.below h0 hF hB
end Go.Proofs.YtdelobaiicoogaaGreatDoor

/- A heap's small calls: Count, Room, Gen, Hold, Settle, New; a nil heap's. -/
namespace Go.Proofs.YtdelobaiicoogaaGreatDoor
open Go.ChangeShapes Go.WideShapes Go.ChangeAt Go.RowKit
variable {w w' : World} {p d : Nat} {h : Hp} {c : Nat} {F : List Nat}

set_option maxHeartbeats 1000000 in
set_option maxRecDepth 20000 in
theorem hcount_any (n : Int) (hn : L5.I64 n) (w : World) (H : IsHeap w p d h c F) :
    Calls Tryz.prog 69 #[.pointer (some ⟨p, 0, none⟩), .int .i64 n] w fun e w' => e = .returned (.int .i64 (h.cnt n : Int)) ∧ w' = w := by
  obtain ⟨a, b, kb, fd, kf, H, rfl⟩ := H
  have c0 := H.cell0
  have HA := hide H.al
  have HN := hide hn
  clear H hn
  go_enter Tryz.func69, Tryz.ntmps69
  go_wp2_with (go_at_call 58; refine (L5.count_any n (unhide HN) _ (unhide HA)).mono ?_; rintro e w1 ⟨rfl, rfl⟩)
  go_ret
  exact ⟨rfl, rfl⟩
theorem alloc_turned {a b kb : Nat} {fd : List Nat} {kf : Nat → Option Value} {l : List L5.St} (H : HeapAt w p d h c a b kb fd kf) (hm : Moves [b] w w') (ha : L5.AllocAt w' a b 2 l) (hl : l.length = h.al.length) : HTurned w w' p d { h with al := l } c (foot p a b kb fd) :=
  ⟨_, ⟨a, b, kb, fd, kf, H.alloc hm ha hl, rfl⟩, hm.mono (fun x hx => .inl (by simp at hx; simp [foot, hx])), fun _ hx => .inl hx⟩
/-! a nil heap -/
end Go.Proofs.YtdelobaiicoogaaGreatDoor

/- A heap's calls: New, Settle; kindOf, placesOf, know. -/
namespace Go.Proofs.YtdelobaiicoogaaGreatDoor
open Go.ChangeShapes Go.WideShapes Go.ChangeAt Go.RowKit
variable {w w' : World} {p d : Nat} {h : Hp} {c : Nat} {F : List Nat}

theorem below_then {W w1 w2 : World} (h : Below W.heap.size W w1) (k : Below w1.heap.size w1 w2) : Below W.heap.size W w2 := h.trans (k.mono h.size)
theorem below_alloc (w : World) (o : Obj) : Below w.heap.size w (w.alloc o) := (Below.refl _ _).alloc (Nat.le_refl _) _
theorem below_drew (w : World) : Below w.heap.size w w.drew := (Below.refl _ _).drew

/-! kindOf -/
set_option maxHeartbeats 400000 in
theorem kindOf_any (L : Bool) (v1 v2 : Value) (w : World) : Calls Tryz.prog 27 #[.agg #[.bool L, v1, v2]] w fun e w' => e = .returned (.int .i64 (if L then 1 else 2)) ∧ Below w.heap.size w w' := by
  cases L with
  | true =>
    go_enter Tryz.func27, Tryz.ntmps27
    go_wp2
    go_ret
    exact ⟨rfl, below_alloc _ _⟩
  | false =>
    go_enter Tryz.func27, Tryz.ntmps27
    go_wp2
    go_ret
    exact ⟨rfl, below_alloc _ _⟩

/-! placesOf -/
theorem info3 : (Tryz.prog.info? 3).map (fun i => (i.zero, i.size, i.bytes)) = some (some (.int .i64 0), 1, 8) := by kernel_rfl
set_option maxHeartbeats 2000000 in
set_option maxRecDepth 20000 in
theorem placesOf_any (kds : List L6.Kd) (ak : Option Addr) (ck : Nat) (w : World) (hk : L6.Row L6.kv w ak kds) (hl : kds.length ≤ 1100) :
    Calls Tryz.prog 24 #[.slice ak kds.length ck] w fun e w' => ∃ v, e = .returned v ∧ Ints w' v (kds.map (fun x => x.2)) ∧ (∀ g, v.ownBlock = some g → w.heap.size ≤ g) ∧ Below w.heap.size w w' := by
  have HK := hide hk
  have HL := hide hl
  clear hk hl
  go_enter Tryz.func24, Tryz.ntmps24
  go_wp2
  go_loopw [3, 8] (fun s t wr => ∃ (k : Nat) (v : Value), v = s ∧ k ≤ kds.length ∧ t = .int .i64 (k : Int) ∧ Ints wr v ((kds.take k).map (fun x => x.2)) ∧ (∀ g, v.ownBlock = some g → w.heap.size ≤ g) ∧ Below w.heap.size w wr) (fun s t _ => kds.length - (intOf t).toNat)
  case atStart => exact ⟨0, _, rfl, Nat.zero_le _, rfl, by simpa using Ints.nil _, (fun g hg => by cases hg), Below.refl _ _⟩
  case round =>
    obtain ⟨k, v, rfl, hk, rfl, hI, hg, hb⟩ := hrel
    have HI := hide hI
    have HG := hide hg
    have HB := hide hb
    clear hI hg hb
    by_cases hlt : k < kds.length
    · obtain ⟨b, off, rfl, hr⟩ := ((unhide HK).grow (unhide HB)).at hlt
      obtain ⟨⟨key, pl⟩, hx⟩ := L6.get_some hlt
      obtain ⟨c0, c1⟩ := hr k _ hx
      simp only at c0 c1
      have HX := hide hx
      clear hr hx
      have hlen : ((kds.take k).map (fun x : L6.Kd => x.2)).length = k := by rw [List.length_map, List.length_take]; omega
      have HOw : Hid ((wr.alloc (.cells #[.string key, .int .i64 pl] 76)).ownsRow 0 3 1 v k (((kds.take k).map (fun x : L6.Kd => x.2)).map intV)) := by
        have h1 : Ints _ _ _ := (unhide HI).grow (below_alloc wr (.cells #[.string key, .int .i64 pl] 76))
        unfold Ints at h1
        rw [hlen] at h1
        exact h1
      have HLN := hide hlen
      clear hlen
      have hL1 := unhide HL
      go_wp2_with (first
        | (at_builtin; refine L3.app_gen (wr := wr.alloc (.cells #[.string key, .int .i64 pl] 76)) (v := v) (n := k) (xs := ((kds.take k).map (fun x : L6.Kd => x.2)).map intV) (news := [.int .i64 pl]) Tryz.underlying71 info3 rfl (by decide) rfl _ _ rfl rfl (by show Value.slice (some ⟨wr.heap.size + 1, 0, none⟩) 1 1 = _; rw [World.size_alloc]) (unhide HOw) (Nat.zero_le _) rfl (by intro u hu; simp at hu; subst hu; rfl) (by have := unhide HL; omega) (by have := unhide HL; omega) ?_; intro a5 cap5 w5 hown5 hg5 hloc; have HY := hide (And.intro hown5 (And.intro hg5 hloc)); clear hown5 hg5 hloc)
        | go_in)
      go_roundw
      case rel =>
        obtain ⟨hown5, hg5, hloc⟩ := unhide HY
        have e1 : kds.take (k + 1) = kds.take k ++ [(key, pl)] := by rw [List.take_add_one, unhide HX]; rfl
        refine ⟨k + 1, _, rfl, by omega, by go_num, ?_, fun g hg => ?_, ?_⟩
        · unfold Ints
          rw [e1, List.map_append, List.length_append, unhide HLN, List.map_append]
          exact hown5
        · rcases hloc with e | ⟨g', e, hg'⟩
          · rw [e] at hg
            exact unhide HG g hg
          · rw [e] at hg
            cases hg
            exact Nat.le_trans (below_then (unhide HB) (below_alloc _ _)).size hg'
        · have hb := below_then (unhide HB) (below_alloc wr (.cells #[.string key, .int .i64 pl] 76))
          exact hb.grown hg5 hb.size (fun g hg => unhide HG g hg)
      case measure => simp [intOf]; omega
    · obtain rfl : k = kds.length := by omega
      rw [List.take_length] at HI
      go_wp2
      go_ret
      exact ⟨_, rfl, unhide HI, unhide HG, unhide HB⟩

/-! know -/
theorem HeapAt.kmap {a b kb : Nat} {fd : List Nat} {kf : Nat → Option Value} (H : HeapAt w p d h c a b kb fd kf) {kf' : Nat → Option Value} {kids' : Nat → List Int} {c' : Nat} (hg : w.grownBy w' (some kb)) (hm : Vm slR w' kb c' kf') (hc : c ≤ c') (hk : ∀ q, q < 4096 → Kid w' (kf' q) (kids' q)) : HeapAt w' p d { h with kids := kids' } c' a b kb fd kf' := by
  have hmv : Moves [kb] w w' := L5.Moves.of_grown hg (fun k hk => by cases hk; simp)
  have hk0 : 0 < kb := H.pos.2.2.2.1
  exact ⟨(hmv.block p H.plt (by have := H.pk; simp; exact this)).trans H.blk, H.al.keep hmv (by have := H.ak; simp; exact this) (by have := H.bk; simp; exact this), (H.dk.keep (mv35 hmv) (fun x hx hq => H.kd (by simp at hq; rw [← hq]; exact hx))).mono hc, hm, hk, H.bk, H.bd, H.kd, H.gen, H.len, tab_keep H.tab hmv (by simp; omega), H.pos⟩
/-- a store into the map of kids, as the walk meets it -/
theorem wp_kstore {ops : Array Oper} {rest : List Oper} {o : Oper} {a : Act} {Q : Exit → Act → World → Prop} {w : World} {b k : Nat} {f : Nat → Option Value} {n : Int} {u : Value} {t e : TypeId} {R : Rdg} {dt : DataW Unit} {ps : List MemPlace}
    (ht : Tryz.prog.underlying t = some (.map 3 e)) (hg : o.guard = none) (mo x v : Operand) (hop : o.op = Op.mapUpdate t mo x v) (hm : a.eval mo = .map (some b)) (hx : a.eval x = .int .i64 n) (hv : a.eval v = u)
    (h : Vm R w b k f) (h0 : 0 ≤ n) (h1 : n < 4096) (hu : R u = some (dt, ps)) (hk : k < maxLen)
    (hK : ∀ w', Vm R w' b (k + 1) (fun i => if i = n.toNat then some u else f i) → w.grownBy w' (some b) → wpList Tryz.prog ops Q rest (a.put o.dst undef) w') :
    wpList Tryz.prog ops Q (o :: rest) a w := by
  refine wpList_plain hg fun K' hK' => ?_
  obtain ⟨w', hrun, r1, r2⟩ := h.store ht h0 h1 hu hk
  unfold Oper.wp
  simp [execOp, hop, hm, hx, hv, hrun, Result.andThen]
  exact hK' _ _ (hK w' r1 r2)
set_option maxHeartbeats 1000000 in
set_option maxRecDepth 20000 in
/-- kids are kept; of a place that has none so far -/
theorem know_any (q : Nat) (hq : q < 4096) (v : Value) (l : List Int) (w : World) (H : IsHeap w p d h c F) (hv : Ints w v l) (h0 : h.kids q = []) (hc : c ≤ 1000000) :
    Calls Tryz.prog 29 #[.pointer (some ⟨p, 0, none⟩), .int .i64 (q : Int), v] w fun e w' => e = .returned (.tuple #[]) ∧ HTurned w w' p d { h with kids := setK h.kids q l } (c + 1) F := by
  obtain ⟨a, b, kb, fd, kf, H, rfl⟩ := H
  obtain ⟨a0, cap0, rfl⟩ := hv.form
  by_cases hl : l = []
  · subst hl
    have e : setK h.kids q [] = h.kids := by
      funext i
      unfold setK
      split
      · rename_i e; rw [e, h0]
      · rfl
    have hn : ¬ (0 : Int) < ((([] : List Int).length : Nat) : Int) := by simp
    have HH := hide H
    clear H hv
    go_enter Tryz.func29, Tryz.ntmps29
    go_wp2
    go_end0
    try rw [e]
    exact ⟨rfl, IsHeap.stays ⟨a, b, kb, fd, kf, (unhide HH).mono (Nat.le_succ c), rfl⟩ (Below.refl _ _)⟩
  · have hn : (0 : Int) < ((l.length : Nat) : Int) := by have := List.length_pos_iff.2 hl; omega
    obtain ⟨dt, hdt⟩ := hv.reads
    have c3 := H.cell3
    have HH := hide H
    have HV := hide hv
    have HD := hide hdt
    clear H hv hdt
    go_enter Tryz.func29, Tryz.ntmps29
    go_wp2_with (at_mapUpdate; refine wp_kstore (R := slR) Tryz.underlying84 rfl _ _ _ rfl rfl rfl rfl (unhide HH).km (by omega) (by omega) (unhide HD) (by unfold maxLen; omega) ?_; intro w3 hs3 hg3; have HX := hide (And.intro hs3 hg3); clear hs3 hg3)
    go_end0
    obtain ⟨hs3, hg3⟩ := unhide HX
    have H := unhide HH
    have hmv : Moves [kb] w w3 := L5.Moves.of_grown hg3 (fun k hk => by cases hk; simp)
    have e2 : ((q : Int)).toNat = q := rfl
    rw [e2] at hs3
    refine ⟨rfl, _, ⟨a, b, kb, fd, _, H.kmap (kids' := setK h.kids q l) hg3 hs3 (Nat.le_succ c) (fun i hi => ?_), rfl⟩, hmv.mono (fun x hx => .inl (by simp at hx; simp [foot, hx])), fun _ hx => .inl hx⟩
    unfold setK
    by_cases e : i = q
    · rw [if_pos e, if_pos e]
      exact Ints.same (unhide HV) (fun g hg => hmv.block g ((unhide HV).lt g hg) (by have := H.row (unhide HV) hg; simp [foot] at this; simp; exact this.2.2.2.1))
    · rw [if_neg e, if_neg e]
      exact H.kids hmv (fun x hx => .inl (by simp at hx; simp [foot, hx])) i hi
end Go.Proofs.YtdelobaiicoogaaGreatDoor

/- A heap's calls: New, Settle. -/
namespace Go.Proofs.YtdelobaiicoogaaGreatDoor
open Go.ChangeShapes Go.WideShapes Go.ChangeAt Go.RowKit
variable {w w' : World} {p d : Nat} {h : Hp} {c : Nat} {F : List Nat}

theorem HeapAt.free {a b kb : Nat} {fd : List Nat} {kf : Nat → Option Value} (H : HeapAt w p d h c a b kb fd kf) (i : Nat) : w.frozen? ⟨p, i, none⟩ = false := by simp [World.frozen?, H.blk]
/-! New -/
def newH (m : L3.Dk) (g : Int) : Hp := ⟨m, L5.newM 2 m.old.length, g, fun _ => []⟩
set_option maxHeartbeats 1000000 in
set_option maxRecDepth 20000 in
theorem hnew_arg (g : Int) (w : World) (h : g < 0 ∨ 1152921504606846976 < g) :
    Calls Tryz.prog 20 #[.pointer (some ⟨d, 0, none⟩), .int .i64 g] w fun e w' => e = .returned (.tuple #[.pointer none, .int .i64 1]) ∧ w' = w := by
  by_cases h1 : g < 0
  · go_enter Tryz.func20, Tryz.ntmps20
    go_wp2
    go_ret2
    simp
  · have h2 : 1152921504606846976 < g := by omega
    clear h
    go_enter Tryz.func20, Tryz.ntmps20
    go_wp2
    go_ret2
    simp
theorem anew2 (t : Nat) (w : World) (h1 : 2 ≤ t) (h2 : t ≤ 4096) :
    Calls Tryz.prog 55 #[.int .i64 2, .int .i64 (t : Int)] w fun e w' => ∃ d b, e = .returned (.tuple #[.pointer (some ⟨d, 0, none⟩), .int .i64 0]) ∧ L5.AllocAt w' d b 2 (L5.newM 2 t) ∧ Below w.heap.size w w' ∧ w.heap.size ≤ d ∧ w.heap.size ≤ b := L5.new_ok 2 t w h1 h2
set_option maxHeartbeats 1000000 in
set_option maxRecDepth 20000 in
theorem hnew_ok {m : L3.Dk} {fd : List Nat} (g : Int) (w : World) (H : L3.IsDisk w d m c fd) (hT : L4.Tab w) (hp : ∀ x ∈ fd, 0 < x) (h1 : ¬ g < 0) (h2 : ¬ 1152921504606846976 < g) (h3 : ¬ m.old.length < 8) :
    Calls Tryz.prog 20 #[.pointer (some ⟨d, 0, none⟩), .int .i64 g] w fun e w' => ∃ p F, e = .returned (.tuple #[.pointer (some ⟨p, 0, none⟩), .int .i64 0]) ∧ IsHeap w' p d (newH m g) c F ∧ Below w.heap.size w w' ∧ ∀ x ∈ F, x ∈ fd ∨ w.heap.size ≤ x := by
  have h4 : ¬ (m.old.length : Int) < 8 := by omega
  have hmm := @run_makeMap Tryz.prog
  have hfew := H.ok.many
  have h2s : 2 ≤ m.old.length := by omega
  have HH := hide H
  have HT := hide hT
  have HP := hide hp
  have HF := hide hfew
  have H2 := hide h2s
  clear H hT hp hfew h3 h2s
  go_enter Tryz.func20, Tryz.ntmps20
  go_wp2_with (first
    | (go_at_call 54; obtain ⟨fb, lb, ov, hD, _⟩ := unhide HH; refine (L3.sectors_any _ hD).mono ?_; clear hD; rintro e w1 ⟨rfl, hw⟩; rw [hw]; clear hw w1)
    | (go_at_call 55; refine (anew2 m.old.length _ (unhide H2) (unhide HF)).mono ?_; rintro e w2 ⟨a, b, rfl, ha, hb, hl⟩; have HX := hide (And.intro ha (And.intro hb hl)); clear ha hb hl))
  go_ret2
  obtain ⟨ha, hb, hla, hlb⟩ := unhide HX
  have H := unhide HH
  have hT := unhide HT
  have hsz : 0 < w.heap.size := World.block_lt_of_cell? w ⟨0, 0, none⟩ (hT 0 (by omega))
  have hb1 : Below w2.heap.size w2 ((w2.alloc (.map #[] 0)).alloc (.cells #[.pointer (some ⟨a, 0, none⟩), .pointer (some ⟨d, 0, none⟩), .int .i64 g, .map (some w2.heap.size)] 86)) := ((Below.refl _ _).alloc (Nat.le_refl _) _).alloc (by simp) _
  have hb2 := below_then hb hb1
  have hs := hb.size
  have hlt := H.lt
  refine ⟨w2.heap.size + 1, _, rfl, ⟨a, b, w2.heap.size, fd, fun _ => none, ⟨?_, ha.grow hb1, H.grow hb2, ?_, fun q _ => rfl, ?_, ?_, ?_, ⟨by show 0 ≤ g; omega, by show g ≤ _; omega⟩, ?_, ?_, ?_⟩, rfl⟩, hb2, ?_⟩
  · show ((w2.heap.push _).push _)[w2.heap.size + 1]? = _
    rw [Array.getElem?_push, if_pos (by simp)]
    rfl
  · exact ((Vm.made slR w2).same (Below.heap_alloc _ _ _ (by simp))).mono (Nat.zero_le _)
  · have := ha.map.lt; omega
  · intro hx; have := hlt b hx; omega
  · intro hx; have := hlt _ hx; omega
  · show 2 + (L5.newM 2 m.old.length).length = m.old.length
    unfold L5.newM
    rw [List.length_replicate]
    have := unhide H2
    omega
  · exact tab_keep hT (L5.Moves.of_below [] hb2) List.not_mem_nil
  · refine ⟨by omega, by omega, by omega, by omega, unhide HP⟩
  · intro x hx
    simp only [foot, List.mem_cons] at hx
    rcases hx with rfl | rfl | rfl | rfl | hx
    · right; omega
    · right; omega
    · right; omega
    · right; omega
    · exact .inl hx
end Go.Proofs.YtdelobaiicoogaaGreatDoor
