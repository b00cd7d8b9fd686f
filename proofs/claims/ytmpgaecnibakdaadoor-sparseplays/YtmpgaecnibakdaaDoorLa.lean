/- What is laid over a block of bytes. -/
import Derived.Test.YtmpgaecnibakdaaDoorSe
namespace Go.Proofs.YtmpgaecnibakdaaDoor
open Go.ChangeShapes Go.WideShapes Go.ChangeAt Go.RowKit
attribute [local go_sem] Oper.semAt_some

theorem copy_bk {ops : Array Oper} {rest : List Oper} {o : Oper} {a : Act} {Q : Exit → Act → World → Prop} {w : World} {b t : Nat} {l : List UInt8} {off n cap : Nat} {s : ByteArray}
    (hwant : Region.wanted o (yielded ops a.tmps) = true) (x y : Operand) (ho : o.op = .call { callee := .builtin .copy, args := #[x, y], argTypes := #[63, 9] })
    (hx : a.eval x = .slice (some ⟨b, off, none⟩) n cap) (hy : a.eval y = .string s) (h : Bk w b t l) (hn : off + n = l.length)
    (hk : wpList Tryd.prog ops Q rest (a.put o.dst (goInt (Nat.min s.size n))) (putB w b (l.take off ++ cpy (l.drop off) (bs s)))) : wpList Tryd.prog ops Q (o :: rest) a w := by
  have hr := run_copy_bk w o.type b t l h off n cap hn s
  refine BigFrame.wpList_want hwant fun K hK => ?_
  unfold Oper.wp execOp
  simp only [ho, resolve, invoke, builtin, Sem.run_bind, Sem.run_pure, Result.andThen_ok, List.map_toArray, List.map_cons, List.map_nil, hx, hy, hr]
  exact hK _ _ hk
theorem clear_bk {ops : Array Oper} {rest : List Oper} {o : Oper} {a : Act} {Q : Exit → Act → World → Prop} {w : World} {b t : Nat} {l : List UInt8} {off n cap : Nat} {ad : Option Addr}
    (hwant : Region.wanted o (yielded ops a.tmps) = true) (x : Operand) (ho : o.op = .call { callee := .builtin .clear, args := #[x], argTypes := #[63] })
    (hx : a.eval x = .slice ad n cap) (h : Bk w b t l) (hn : off + n ≤ l.length) (ha : 0 < n → ad = some ⟨b, off, none⟩)
    (hk : wpList Tryd.prog ops Q rest (a.put o.dst (.tuple #[])) (putB w b (l.take off ++ List.replicate n 0 ++ l.drop (off + n)))) : wpList Tryd.prog ops Q (o :: rest) a w := by
  have hr := run_clear_bk w o.type b t l h off n cap hn ad ha
  refine BigFrame.wpList_want hwant fun K hK => ?_
  unfold Oper.wp execOp
  simp only [ho, resolve, invoke, builtin, Sem.run_bind, Sem.run_pure, Result.andThen_ok, List.map_toArray, List.map_cons, List.map_nil, hx, hr]
  exact hK _ _ hk

theorem lay_pos (b t : Nat) (l : List UInt8) (cap : Nat) (d : List UInt8) (k : Nat) (w : World) (h : Bk w b t l) (hk : k < l.length) (hc : l.length ≤ cap) :
    Calls Tryd.prog 27 #[.slice (some ⟨b, 0, none⟩) l.length cap, .string (tx d), .int .i64 (k : Int)] w fun e w' => e = .returned (.tuple #[]) ∧ w' = putB w b (layR l d (k : Int)) := by
  have hne : ¬ cap = k := by omega
  have hkl : (k : Int) ≤ (l.length : Int) := by omega
  have e : layR l d (k : Int) = l.take k ++ cpy (l.drop k) (bs (tx d)) := by
    unfold layR
    rw [if_neg (by omega), bs_tx, Int.toNat_natCast]
  rw [e]
  have hr := fun ty => run_copy_bk w ty b t l h k (l.length - k) (cap - k) (by omega) (tx d)
  generalize putB w b (l.take k ++ cpy (l.drop k) (bs (tx d))) = w2 at *
  clear h e
  go_enter Tryd.func27, Tryd.ntmps27
  go_wp2
  go_end0
  exact ⟨rfl, rfl⟩
theorem lay_neg (b t : Nat) (l : List UInt8) (cap : Nat) (d : List UInt8) (k : Nat) (w : World) (h : Bk w b t l) (hk : 0 < k) (hd : k ≤ d.length) (hdl : d.length ≤ 1000000) :
    Calls Tryd.prog 27 #[.slice (some ⟨b, 0, none⟩) l.length cap, .string (tx d), .int .i64 (-(k : Int))] w fun e w' => e = .returned (.tuple #[]) ∧ w' = putB w b (layR l d (-(k : Int))) := by
  have hkl : (k : Int) ≤ ((tx d).size : Int) := by rw [tx_size]; omega
  have hk0 : -(k : Int) < 0 := by omega
  have hk1 : (0 : Int) ≤ (k : Int) := by omega
  have e : layR l d (-(k : Int)) = l.take 0 ++ cpy (l.drop 0) (bs (tx (d.drop k))) := by
    unfold layR
    rw [if_pos hk0, bs_tx, Int.neg_neg, Int.toNat_natCast, List.take_zero, List.drop_zero, List.nil_append]
  rw [e]
  have hx := ext_drop d k
  have hr := fun ty => run_copy_bk w ty b t l h 0 l.length cap (by omega) (tx (d.drop k))
  generalize putB w b (l.take 0 ++ cpy (l.drop 0) (bs (tx (d.drop k)))) = w2 at *
  rw [← hx] at hr
  clear h e hx
  generalize tx d = S at *
  go_enter Tryd.func27, Tryd.ntmps27
  go_wp2
  refine bodyPost_ret (results_none rfl _ _ _) rfl ?_
  exact ⟨rfl, rfl⟩
/-- an array of zeros -/
theorem bk_new (w : World) : Bk (w.alloc (.cells #[.int .u8 0, .int .u8 0, .int .u8 0, .int .u8 0, .int .u8 0, .int .u8 0, .int .u8 0, .int .u8 0, .int .u8 0, .int .u8 0, .int .u8 0, .int .u8 0, .int .u8 0, .int .u8 0, .int .u8 0, .int .u8 0, .int .u8 0, .int .u8 0, .int .u8 0, .int .u8 0, .int .u8 0, .int .u8 0, .int .u8 0, .int .u8 0, .int .u8 0, .int .u8 0, .int .u8 0, .int .u8 0, .int .u8 0, .int .u8 0, .int .u8 0, .int .u8 0, .int .u8 0, .int .u8 0, .int .u8 0, .int .u8 0, .int .u8 0, .int .u8 0, .int .u8 0, .int .u8 0, .int .u8 0, .int .u8 0, .int .u8 0, .int .u8 0, .int .u8 0, .int .u8 0, .int .u8 0, .int .u8 0, .int .u8 0, .int .u8 0, .int .u8 0, .int .u8 0, .int .u8 0, .int .u8 0, .int .u8 0, .int .u8 0, .int .u8 0, .int .u8 0, .int .u8 0, .int .u8 0, .int .u8 0, .int .u8 0, .int .u8 0, .int .u8 0] 69)) w.heap.size 69 (List.replicate 64 0) := heap_alloc_new _ _

theorem results_cell1 {fn : Func} {p : Tmp} {ty : TypeId} (h : fn.results = #[.cell p ty]) (tmps : Array Value) (P : Program) (w : World) :
    (results fn tmps).run P w = ((asAddr (tmps.getD p undef)).run P w).andThen fun a w₁ => (loadVar ty a).run P w₁ := by
  simp only [results, h]
  simp [Sem.run_bind, Result.andThen]
theorem results_row {fn : Func} {p : Tmp} {ty : TypeId} {P : Program} {tmps : Array Value} {w : World} {a : Addr} {v : Value} (h : fn.results = #[.cell p ty]) (hp : tmps.getD p undef = .pointer (some a)) (hl : (loadVar ty a).run P w = .ok v w) : (results fn tmps).run P w = .ok v w := by
  rw [results_cell1 h, hp]
  simpa [asAddr] using hl
theorem info69 : (Tryd.prog.info? 69).map (·.size) = some 64 := by kernel_rfl
set_option maxHeartbeats 2000000 in
set_option maxRecDepth 10000 in
theorem bytesAt_any (a : Option Addr) (cap : Nat) (l : List Pc) (i : Int) (w : World) (hr : Ps w a l) (hs : Sorted l) (h64 : ∀ p ∈ l, p.2.length = 64) (hl : l.length ≤ 1000000) :
    Calls Tryd.prog 32 #[.slice a l.length cap, .int .i64 i] w fun e w' => e = .returned (.agg (byt (bytesP l i)).toArray) ∧ Below w.heap.size w w' := by
  have k1 := bk_new w
  have b1 := b_alloc w (.cells #[.int .u8 0, .int .u8 0, .int .u8 0, .int .u8 0, .int .u8 0, .int .u8 0, .int .u8 0, .int .u8 0, .int .u8 0, .int .u8 0, .int .u8 0, .int .u8 0, .int .u8 0, .int .u8 0, .int .u8 0, .int .u8 0, .int .u8 0, .int .u8 0, .int .u8 0, .int .u8 0, .int .u8 0, .int .u8 0, .int .u8 0, .int .u8 0, .int .u8 0, .int .u8 0, .int .u8 0, .int .u8 0, .int .u8 0, .int .u8 0, .int .u8 0, .int .u8 0, .int .u8 0, .int .u8 0, .int .u8 0, .int .u8 0, .int .u8 0, .int .u8 0, .int .u8 0, .int .u8 0, .int .u8 0, .int .u8 0, .int .u8 0, .int .u8 0, .int .u8 0, .int .u8 0, .int .u8 0, .int .u8 0, .int .u8 0, .int .u8 0, .int .u8 0, .int .u8 0, .int .u8 0, .int .u8 0, .int .u8 0, .int .u8 0, .int .u8 0, .int .u8 0, .int .u8 0, .int .u8 0, .int .u8 0, .int .u8 0, .int .u8 0, .int .u8 0] 69)
  have k2 := bk_new (w.alloc (.cells #[.int .u8 0, .int .u8 0, .int .u8 0, .int .u8 0, .int .u8 0, .int .u8 0, .int .u8 0, .int .u8 0, .int .u8 0, .int .u8 0, .int .u8 0, .int .u8 0, .int .u8 0, .int .u8 0, .int .u8 0, .int .u8 0, .int .u8 0, .int .u8 0, .int .u8 0, .int .u8 0, .int .u8 0, .int .u8 0, .int .u8 0, .int .u8 0, .int .u8 0, .int .u8 0, .int .u8 0, .int .u8 0, .int .u8 0, .int .u8 0, .int .u8 0, .int .u8 0, .int .u8 0, .int .u8 0, .int .u8 0, .int .u8 0, .int .u8 0, .int .u8 0, .int .u8 0, .int .u8 0, .int .u8 0, .int .u8 0, .int .u8 0, .int .u8 0, .int .u8 0, .int .u8 0, .int .u8 0, .int .u8 0, .int .u8 0, .int .u8 0, .int .u8 0, .int .u8 0, .int .u8 0, .int .u8 0, .int .u8 0, .int .u8 0, .int .u8 0, .int .u8 0, .int .u8 0, .int .u8 0, .int .u8 0, .int .u8 0, .int .u8 0, .int .u8 0] 69))
  have b2 := b_alloc (w.alloc (.cells #[.int .u8 0, .int .u8 0, .int .u8 0, .int .u8 0, .int .u8 0, .int .u8 0, .int .u8 0, .int .u8 0, .int .u8 0, .int .u8 0, .int .u8 0, .int .u8 0, .int .u8 0, .int .u8 0, .int .u8 0, .int .u8 0, .int .u8 0, .int .u8 0, .int .u8 0, .int .u8 0, .int .u8 0, .int .u8 0, .int .u8 0, .int .u8 0, .int .u8 0, .int .u8 0, .int .u8 0, .int .u8 0, .int .u8 0, .int .u8 0, .int .u8 0, .int .u8 0, .int .u8 0, .int .u8 0, .int .u8 0, .int .u8 0, .int .u8 0, .int .u8 0, .int .u8 0, .int .u8 0, .int .u8 0, .int .u8 0, .int .u8 0, .int .u8 0, .int .u8 0, .int .u8 0, .int .u8 0, .int .u8 0, .int .u8 0, .int .u8 0, .int .u8 0, .int .u8 0, .int .u8 0, .int .u8 0, .int .u8 0, .int .u8 0, .int .u8 0, .int .u8 0, .int .u8 0, .int .u8 0, .int .u8 0, .int .u8 0, .int .u8 0, .int .u8 0] 69)) (.cells #[.int .u8 0, .int .u8 0, .int .u8 0, .int .u8 0, .int .u8 0, .int .u8 0, .int .u8 0, .int .u8 0, .int .u8 0, .int .u8 0, .int .u8 0, .int .u8 0, .int .u8 0, .int .u8 0, .int .u8 0, .int .u8 0, .int .u8 0, .int .u8 0, .int .u8 0, .int .u8 0, .int .u8 0, .int .u8 0, .int .u8 0, .int .u8 0, .int .u8 0, .int .u8 0, .int .u8 0, .int .u8 0, .int .u8 0, .int .u8 0, .int .u8 0, .int .u8 0, .int .u8 0, .int .u8 0, .int .u8 0, .int .u8 0, .int .u8 0, .int .u8 0, .int .u8 0, .int .u8 0, .int .u8 0, .int .u8 0, .int .u8 0, .int .u8 0, .int .u8 0, .int .u8 0, .int .u8 0, .int .u8 0, .int .u8 0, .int .u8 0, .int .u8 0, .int .u8 0, .int .u8 0, .int .u8 0, .int .u8 0, .int .u8 0, .int .u8 0, .int .u8 0, .int .u8 0, .int .u8 0, .int .u8 0, .int .u8 0, .int .u8 0, .int .u8 0] 69)
  have k12 := k1.below b2
  have hr2 := hr.below (below_then b1 b2)
  have HB := hide (below_then b1 b2)
  have z1 : (w.alloc (.cells #[.int .u8 0, .int .u8 0, .int .u8 0, .int .u8 0, .int .u8 0, .int .u8 0, .int .u8 0, .int .u8 0, .int .u8 0, .int .u8 0, .int .u8 0, .int .u8 0, .int .u8 0, .int .u8 0, .int .u8 0, .int .u8 0, .int .u8 0, .int .u8 0, .int .u8 0, .int .u8 0, .int .u8 0, .int .u8 0, .int .u8 0, .int .u8 0, .int .u8 0, .int .u8 0, .int .u8 0, .int .u8 0, .int .u8 0, .int .u8 0, .int .u8 0, .int .u8 0, .int .u8 0, .int .u8 0, .int .u8 0, .int .u8 0, .int .u8 0, .int .u8 0, .int .u8 0, .int .u8 0, .int .u8 0, .int .u8 0, .int .u8 0, .int .u8 0, .int .u8 0, .int .u8 0, .int .u8 0, .int .u8 0, .int .u8 0, .int .u8 0, .int .u8 0, .int .u8 0, .int .u8 0, .int .u8 0, .int .u8 0, .int .u8 0, .int .u8 0, .int .u8 0, .int .u8 0, .int .u8 0, .int .u8 0, .int .u8 0, .int .u8 0, .int .u8 0] 69)).heap.size = w.heap.size + 1 := by simp
  rw [z1] at k2
  have HK1 := hide k12
  have HK2 := hide k2
  have HR := hide hr2
  clear k1 b1 k2 b2 k12 hr2 hr z1
  go_enter Tryd.func32, Tryd.ntmps32
  go_wp2_with fail
  generalize (w.alloc (.cells #[.int .u8 0, .int .u8 0, .int .u8 0, .int .u8 0, .int .u8 0, .int .u8 0, .int .u8 0, .int .u8 0, .int .u8 0, .int .u8 0, .int .u8 0, .int .u8 0, .int .u8 0, .int .u8 0, .int .u8 0, .int .u8 0, .int .u8 0, .int .u8 0, .int .u8 0, .int .u8 0, .int .u8 0, .int .u8 0, .int .u8 0, .int .u8 0, .int .u8 0, .int .u8 0, .int .u8 0, .int .u8 0, .int .u8 0, .int .u8 0, .int .u8 0, .int .u8 0, .int .u8 0, .int .u8 0, .int .u8 0, .int .u8 0, .int .u8 0, .int .u8 0, .int .u8 0, .int .u8 0, .int .u8 0, .int .u8 0, .int .u8 0, .int .u8 0, .int .u8 0, .int .u8 0, .int .u8 0, .int .u8 0, .int .u8 0, .int .u8 0, .int .u8 0, .int .u8 0, .int .u8 0, .int .u8 0, .int .u8 0, .int .u8 0, .int .u8 0, .int .u8 0, .int .u8 0, .int .u8 0, .int .u8 0, .int .u8 0, .int .u8 0, .int .u8 0] 69)).alloc (.cells #[.int .u8 0, .int .u8 0, .int .u8 0, .int .u8 0, .int .u8 0, .int .u8 0, .int .u8 0, .int .u8 0, .int .u8 0, .int .u8 0, .int .u8 0, .int .u8 0, .int .u8 0, .int .u8 0, .int .u8 0, .int .u8 0, .int .u8 0, .int .u8 0, .int .u8 0, .int .u8 0, .int .u8 0, .int .u8 0, .int .u8 0, .int .u8 0, .int .u8 0, .int .u8 0, .int .u8 0, .int .u8 0, .int .u8 0, .int .u8 0, .int .u8 0, .int .u8 0, .int .u8 0, .int .u8 0, .int .u8 0, .int .u8 0, .int .u8 0, .int .u8 0, .int .u8 0, .int .u8 0, .int .u8 0, .int .u8 0, .int .u8 0, .int .u8 0, .int .u8 0, .int .u8 0, .int .u8 0, .int .u8 0, .int .u8 0, .int .u8 0, .int .u8 0, .int .u8 0, .int .u8 0, .int .u8 0, .int .u8 0, .int .u8 0, .int .u8 0, .int .u8 0, .int .u8 0, .int .u8 0, .int .u8 0, .int .u8 0, .int .u8 0, .int .u8 0] 69) = w2 at *
  refine (seek_any a cap l i w2 (unhide HR) hs hl).mono ?_
  rintro e w3 ⟨rfl, hb3⟩
  have HB3 := hide (below_then (unhide HB) hb3)
  have HR3 := hide ((unhide HR).below hb3)
  have HK3 := hide ((unhide HK1).below hb3)
  have HK4 := hide ((unhide HK2).below hb3)
  clear hb3 HR HB HK1 HK2
  obtain ⟨p, hp⟩ : ∃ p, p = w.heap.size := ⟨_, rfl⟩
  rw [← hp] at HK3 HK4 HB3 ⊢
  have hpw : Hid (p = w.heap.size) := hp
  clear hp
  obtain ⟨q, hq⟩ : ∃ q, q = p + 1 := ⟨_, rfl⟩
  rw [← hq] at HK4 ⊢
  have hqp : p ≠ q := by omega
  have hqp2 : p ≤ q := by omega
  clear hq
  by_cases hc : cntB l i < l.length
  · obtain ⟨⟨ix, da⟩, hx⟩ := get_some hc
    obtain ⟨b, off, rfl, hcell⟩ := (unhide HR3).at hc
    have c0 := (hcell _ _ hx).1
    have c1 := (hcell _ _ hx).2
    unfold ixV at c0
    unfold daV at c1
    simp only at c0 c1
    have hd : da.length = 64 := h64 (ix, da) (List.mem_of_getElem? hx)
    have hlt' : (cntB l i : Int) < (l.length : Int) := by omega
    have hg : l.getD (cntB l i) (0, []) = (ix, da) := by rw [List.getD_eq_getElem?_getD, hx]; rfl
    by_cases hi : ix = i
    · have HE : Hid (bytesP l i = cpy (List.replicate 64 0) da) := by
        show _ = _
        unfold bytesP
        rw [if_pos ⟨hc, by rw [hg]; exact hi⟩, hg]
      have hrun := fun ty => run_copy_bk w3.drew ty q 69 (List.replicate 64 0) (unhide HK4) 0 64 64 rfl (tx da)
      have hk5 := (Bk.put (show Bk w3.drew q 69 (List.replicate 64 0) from unhide HK4) (List.take 0 (List.replicate 64 0) ++ cpy (List.drop 0 (List.replicate 64 0)) (bs (tx da))))
      have hk6 : Bk (putB w3.drew q (List.take 0 (List.replicate 64 0) ++ cpy (List.drop 0 (List.replicate 64 0)) (bs (tx da)))) p 69 (List.replicate 64 0) := (putB_other hqp _).trans (show Bk w3.drew p 69 (List.replicate 64 0) from unhide HK3)
      have HB5 := hide (putB_below ((unhide HB3).drew) hqp2 (List.take 0 (List.replicate 64 0) ++ cpy (List.drop 0 (List.replicate 64 0)) (bs (tx da))))
      generalize putB w3.drew q (List.take 0 (List.replicate 64 0) ++ cpy (List.drop 0 (List.replicate 64 0)) (bs (tx da))) = w5 at *
      have HK5 := hide hk5
      have HK6 := hide hk6
      clear hx hcell HR3 hg hk5 hk6
      subst hi
      have c2 := c1
      rw [← Nat.add_assoc] at c2
      go_wp2
      go_region
      go_wp2_with (first
        | (refine wpList_load_row rfl 69 _ rfl q rfl 69 _ (0, 0) _ (unhide HK5) Tryd.underlying69 rfl (by rw [info69, List.size_toArray, byt_length]; simp [cpy_length]) ?_)
        | (refine wpList_store_row rfl 69 _ _ rfl p _ rfl rfl 69 _ (unhide HK6) (by rw [info69, List.size_toArray, byt_length]; simp [cpy_length]) (by rw [List.size_toArray, List.size_toArray, byt_length, byt_length]; simp [cpy_length]) (byt_all _) ?_))
      have hk9 := Bk.put (unhide HK6) (List.take 0 (List.replicate 64 0) ++ cpy (List.drop 0 (List.replicate 64 0)) (bs (tx da)))
      have hb9 := putB_below (unhide HB5) (Nat.le_refl _) (List.take 0 (List.replicate 64 0) ++ cpy (List.drop 0 (List.replicate 64 0)) (bs (tx da)))
      have he : (List.take 0 (List.replicate 64 0) ++ cpy (List.drop 0 (List.replicate 64 0)) (bs (tx da))) = bytesP l ix := by rw [unhide HE, bs_tx]; rfl
      rw [he] at hk9 hb9 ⊢
      have hsz : (byt (bytesP l ix)).toArray.size = 64 := by rw [List.size_toArray, byt_length, unhide HE, cpy_length, List.length_replicate]
      have hl9 := run_loadVar_row (P := Tryd.prog) _ p 69 69 _ (0, 0) _ hk9 Tryd.underlying69 rfl (by rw [info69, hsz])
      exact bodyPost_ret (results_row rfl rfl hl9) rfl ⟨rfl, hb9.mono (Nat.le_of_eq (unhide hpw).symm)⟩
    · have HE : Hid (bytesP l i = List.replicate 64 0) := by
        show _ = _
        unfold bytesP
        rw [if_neg (fun h => hi (by have := h.2; rw [hg] at this; exact this))]
      clear hx hcell HR3 hg
      go_wp2_with (first
        | (refine wpList_load_row rfl 69 _ rfl q rfl 69 _ (0, 0) _ (unhide HK4) Tryd.underlying69 rfl (by rw [info69, List.size_toArray, byt_length]; simp) ?_)
        | (refine wpList_store_row rfl 69 _ _ rfl p _ rfl rfl 69 _ (unhide HK3) (by rw [info69, List.size_toArray, byt_length]; simp) rfl (byt_all _) ?_))
      have hk9 := Bk.put (unhide HK3) (List.replicate 64 0)
      have hb9 := putB_below (unhide HB3) (Nat.le_refl _) (List.replicate 64 0)
      rw [unhide HE]
      have hl9 := run_loadVar_row (P := Tryd.prog) _ p 69 69 _ (0, 0) _ hk9 Tryd.underlying69 rfl (by rw [info69, List.size_toArray, byt_length]; simp)
      exact bodyPost_ret (results_row rfl rfl hl9) rfl ⟨rfl, hb9.mono (Nat.le_of_eq (unhide hpw).symm)⟩
  · have HE : Hid (bytesP l i = List.replicate 64 0) := by
      show _ = _
      unfold bytesP
      rw [if_neg (fun h => hc h.1)]
    have hc' : ¬ (cntB l i : Int) < (l.length : Int) := by omega
    clear HR3 hc
    go_wp2_with (first
      | (refine wpList_load_row rfl 69 _ rfl q rfl 69 _ (0, 0) _ (unhide HK4) Tryd.underlying69 rfl (by rw [info69, List.size_toArray, byt_length]; simp) ?_)
      | (refine wpList_store_row rfl 69 _ _ rfl p _ rfl rfl 69 _ (unhide HK3) (by rw [info69, List.size_toArray, byt_length]; simp) rfl (byt_all _) ?_))
    have hk9 := Bk.put (unhide HK3) (List.replicate 64 0)
    have hb9 := putB_below (unhide HB3) (Nat.le_refl _) (List.replicate 64 0)
    rw [unhide HE]
    have hl9 := run_loadVar_row (P := Tryd.prog) _ p 69 69 _ (0, 0) _ hk9 Tryd.underlying69 rfl (by rw [info69, List.size_toArray, byt_length]; simp)
    exact bodyPost_ret (results_row rfl rfl hl9) rfl ⟨rfl, hb9.mono (Nat.le_of_eq (unhide hpw).symm)⟩
end Go.Proofs.YtmpgaecnibakdaaDoor
