/- A node's bytes, its size, its check, as the program has them. -/
import Derived.Test.YtepkifledonldaaEach
import Derived.Test.YtepkifledonldaaText
import Derived.Test.YtepkifledonldaaIsright
namespace Go.Proofs.Ytepkifledonldaa
open Go.ChangeShapes Go.WideShapes Go.ChangeAt Go.RowKit

theorem rise_all {β : Type} {may : ByteArray × β → Bool} (l : List (ByteArray × β)) (p : Option ByteArray) (h : rise may p l = true) : ∀ x ∈ l, may x = true := by
  induction l generalizing p with
  | nil => intro x hx; cases hx
  | cons y t ih =>
    have : may y = true ∧ rise may (some y.1) t = true := by
      cases p <;> simp [rise] at h
      · exact h
      · exact ⟨h.1.1, h.2⟩
    intro x hx
    rcases List.mem_cons.1 hx with rfl | hx
    · exact this.1
    · exact ih _ this.2 x hx
theorem flat_le {α : Type} {f : α → List Nat} {m : Nat} (l : List α) (h : ∀ x ∈ l, (f x).length ≤ m) : (l.flatMap f).length ≤ l.length * m := by
  induction l with
  | nil => simp
  | cons y t ih =>
    rw [List.flatMap_cons, List.length_append, List.length_cons, Nat.add_mul]
    have h1 := h y List.mem_cons_self
    have h2 := ih (fun x hx => h x (List.mem_cons_of_mem _ hx))
    omega
theorem itL_le {x : It} (h : mayI x = true) : (itL x).length ≤ 452 := by
  simp [mayI] at h
  unfold itL
  rw [List.length_append]
  have h1 := txL_length x.1
  have h2 := txL_length x.2
  omega
theorem kdL_le {x : Kd} (h : mayK x = true) : (kdL x).length ≤ 452 := by
  simp [mayK] at h
  unfold kdL
  rw [List.length_append]
  have h1 := txL_length x.1
  have h2 := Pk.shL_le x.2.toNat
  omega
theorem mayK_place {x : Kd} (h : mayK x = true) : 0 ≤ x.2 ∧ x.2 < 9223372036854775808 := by
  simp [mayK] at h
  omega
theorem right_leaf {its : List It} {kds : List Kd} (h : rightB ⟨true, its, kds⟩ = true) : kds = [] ∧ its ≠ [] ∧ rise mayI none its = true := by
  simp [rightB] at h
  exact ⟨h.1.1, h.1.2, h.2⟩
theorem right_kids {its : List It} {kds : List Kd} (h : rightB ⟨false, its, kds⟩ = true) : its = [] ∧ kds ≠ [] ∧ rise mayK none kds = true := by
  simp [rightB] at h
  exact ⟨h.1.1, h.1.2, h.2⟩
theorem below_step {w w1 w2 w3 : World} {B : Nat} (h : Below w.heap.size w w1) (h1 : Below w1.heap.size w1 w2) (h2 : Below B w2 w3) (hB : w.heap.size ≤ B) : Below w.heap.size w w3 :=
  (below_then h h1).trans (h2.mono hB)
theorem Wr.new (w : World) : Wr w.heap.size (w.alloc (.cells #[.int .i64 0, .slice none 0 0] 71)) w.heap.size 0 [] :=
  ⟨Nat.le_refl _, .slice none 0 0, heap_alloc_new w _, World.ownsRow_nil _ _ _ _⟩
theorem new_low (w : World) (o : Obj) : ∀ k, k < (w.alloc o).heap.size → k ≠ w.heap.size → k < w.heap.size := by
  intro k hk hne
  simp at hk
  omega

set_option maxRecDepth 10000 in
set_option maxHeartbeats 2000000 in
theorem bytesOf_any (n : Nd) (ai ak : Option Addr) (ci ck : Nat) (w : World) (hn : Has w n ai ak) (hr : rightB n = true) (hil : n.its.length ≤ 1100) (hkl : n.kds.length ≤ 1100) :
    Calls Try.prog 23 #[.agg #[.bool n.leaf, .slice ai n.its.length ci, .slice ak n.kds.length ck]] w fun e w' => e = .returned (.string (strOf (ndL n))) ∧ Below w.heap.size w w' := by
  obtain ⟨L, its, kds⟩ := n
  simp only at hil hkl
  have hmf : ∀ (fn : Fn) (first cap : Array Value) (w : World), (Instr.makeFunc fn first cap).run Try.prog w = .ok (.func fn first cap) w := fun _ _ _ _ => rfl
  have hb0 := below_alloc w (.cells #[.bool L, .slice ai its.length ci, .slice ak kds.length ck] 25)
  have hb1 := below_alloc (w.alloc (.cells #[.bool L, .slice ai its.length ci, .slice ak kds.length ck] 25)) (.cells #[.int .i64 0, .slice none 0 0] 71)
  have hw := Wr.new (w.alloc (.cells #[.bool L, .slice ai its.length ci, .slice ak kds.length ck] 25))
  have hlow := new_low (w.alloc (.cells #[.bool L, .slice ai its.length ci, .slice ak kds.length ck] 25)) (.cells #[.int .i64 0, .slice none 0 0] 71)
  have HB := hide (And.intro hb0 hb1)
  have hwx : (w.alloc (.cells #[.bool L, .slice ai its.length ci, .slice ak kds.length ck] 25)).heap.size = w.heap.size + 1 := by simp
  rw [hwx] at hw hlow
  cases L with
  | true =>
    obtain ⟨rfl, _, hrise⟩ := right_leaf hr
    have hfl : (its.flatMap itL).length ≤ 900000 := Nat.le_trans (flat_le its (fun x hx => itL_le (rise_all _ _ hrise x hx))) (by omega)
    have HC := hide (eachI_any _ _ ai ci its _ hw ((hn.1.grow hb0).grow hb1) hlow (by omega) hfl)
    have HT := hide (fun W (hW : Wr (w.heap.size + 1) W (w.heap.size + 1) its.length (its.flatMap itL)) => wtext_any _ _ its.length 1 _ W hW (by decide) (by omega) hfl)
    have HBX := hide hwx
    clear hn hr hrise hfl hw hlow hb0 hb1 hwx
    go_enter Try.func23, Try.ntmps23
    go_wp2_with (first
      | (go_at_call 43; refine (unhide HC).mono ?_; rintro x w3 ⟨rfl, hw3, hb3⟩)
      | (go_at_call 44; refine (unhide HT _ hw3).mono ?_; rintro x w4 ⟨rfl, hb4⟩))
    go_ret
    exact ⟨rfl, below_then (below_step (unhide HB).1 (unhide HB).2 hb3 (Nat.le_succ _)) hb4⟩
  | false =>
    obtain ⟨rfl, _, hrise⟩ := right_kids hr
    have hfl : (kds.flatMap kdL).length ≤ 900000 := Nat.le_trans (flat_le kds (fun x hx => kdL_le (rise_all _ _ hrise x hx))) (by omega)
    have HC := hide (eachK_any _ _ ak ck kds _ hw ((hn.2.grow hb0).grow hb1) hlow (fun x hx => mayK_place (rise_all _ _ hrise x hx)) (by omega) hfl)
    have HT := hide (fun W (hW : Wr (w.heap.size + 1) W (w.heap.size + 1) kds.length (kds.flatMap kdL)) => wtext_any _ _ kds.length 2 _ W hW (by decide) (by omega) hfl)
    have HBX := hide hwx
    clear hn hr hrise hfl hw hlow hb0 hb1 hwx
    go_enter Try.func23, Try.ntmps23
    go_wp2_with (first
      | (go_at_call 45; refine (unhide HC).mono ?_; rintro x w3 ⟨rfl, hw3, hb3⟩)
      | (go_at_call 44; refine (unhide HT _ hw3).mono ?_; rintro x w4 ⟨rfl, hb4⟩))
    go_ret
    exact ⟨rfl, below_then (below_step (unhide HB).1 (unhide HB).2 hb3 (Nat.le_succ _)) hb4⟩
end Go.Proofs.Ytepkifledonldaa
