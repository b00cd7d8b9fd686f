/- The statements' own guard, and the statement on a nil disk. -/
import Derived.Test.YtmkmebogfcbphaaCrash
namespace Go.Proofs.Ytmkmebogfcbphaa
open Go.ChangeShapes Go.WideShapes Go.ChangeAt Go.RowKit Go.Maps

theorem aw_write (D : ByteArray) (h : D.size = 1024) : writeE (newM 2) 1 D = 0 ∧ writeM (newM 2) 1 D = ⟨[zeros, zeros], [(1, D)], -1, false⟩ := by
  have e : newM 2 = ⟨[zeros, zeros], [], -1, false⟩ := rfl
  rw [e]
  constructor
  · simp [writeE, h]
  · simp [writeM, h, spent]
theorem aw_read (D : ByteArray) : readM (crashM ⟨[zeros, zeros], [(1, D)], -1, false⟩ [1026]) 1 = (tearK zeros D 2, 0) := by
  simp [readM, crashM, crashL, lastW, tear]
theorem ex_list (s : ByteArray) (a b : Nat) : (s.extract a b).data.toList = (s.data.toList.drop a).take (b - a) := by
  rw [ByteArray.data_extract, Array.toList_extract]
theorem dataL_two (a b n : Nat) : dataL a b (n + 2) = a :: a :: (List.range n).map fun i => if i + 2 < 512 then a else b := by
  simp [dataL, List.range_succ_eq_map]
theorem aw_first : (tearK zeros (dataS 97 98) 2).extract 0 3 = ⟨#[97, 97, 0]⟩ := by
  apply data_inj
  have e1 : ∃ r, (dataS 97 98).data.toList = 97 :: 97 :: r := by
    unfold dataS strOf
    rw [strOfNums_data, show (1024 : Nat) = 1022 + 2 from rfl, dataL_two]
    exact ⟨_, rfl⟩
  have e2 : ∃ r, zeros.data.toList = 0 :: 0 :: 0 :: r := by
    unfold zeros
    rw [show (1024 : Nat) = 1021 + 1 + 1 + 1 from rfl, List.replicate_succ, List.replicate_succ, List.replicate_succ]
    exact ⟨_, rfl⟩
  obtain ⟨r1, e1⟩ := e1
  obtain ⟨r2, e2⟩ := e2
  rw [ex_list]
  unfold tearK
  rw [ByteArray.data_append, Array.toList_append, ex_list, ex_list, e1, e2, zeros_size]
  simp
theorem aw_size : (tearK zeros (dataS 97 98) 2).size = 1024 := by
  unfold tearK
  rw [ByteArray.size_append, ByteArray.size_extract, ByteArray.size_extract, dataS_size, zeros_size]
  rfl

theorem isInts_new (w : World) (f : Int) : IsInts (w.alloc (.cells #[.int .i64 f] 3)) (.slice (some ⟨w.heap.size, 0, none⟩) 1 1) [f] := by
  refine ⟨_, _, rfl, .inr ⟨_, _, rfl, by simp, fun i hi => ?_⟩⟩
  have : i = 0 := by simpa using hi
  subst this
  simp

set_option maxHeartbeats 4000000 in
set_option maxRecDepth 20000 in
theorem awake_any (w : World) : Calls Try.prog 8 #[] w fun e w' => e = .returned (.bool true) ∧ Below w.heap.size w w' := by
  have hd := data_any 97 98
  have hds := dataS_size 97 98
  have hwr := aw_write (dataS 97 98) hds
  have hrd := aw_read (dataS 97 98)
  have hfi := aw_first
  have hsz := aw_size
  generalize dataS 97 98 = D at *
  generalize tearK zeros D 2 = T at *
  have hsz' : (T.size : Int) = 1024 := by omega
  have h3 : (3 : Int) ≤ (T.size : Int) := by omega
  have HD : Hid (∀ w, Calls Try.prog 17 #[.int .u8 97, .int .u8 98] w fun e w' => e = .returned (.string D) ∧ Below w.heap.size w w') := hd
  have HW := hide hwr
  have HR := hide hrd
  clear hd hwr hrd hds
  go_enter Try.func8, Try.ntmps8
  go_wp2_with (first
    | (go_at_call 10; refine (new_any 2 _ (by decide) (by decide)).mono ?_; rintro e w1 ⟨d, fp, rfl, hI, hb1, hfp⟩; have HI : Hid (IsDisk w1 d (newM 2) 0 fp) := hI; have HB1 := hide hb1; have HFP := hide hfp; clear hI hb1 hfp)
    | (go_at_call 17; refine (unhide HD _).mono ?_; rintro e w2 ⟨rfl, hb2⟩; have HI2 := hide ((unhide HI).grow hb2); have HB2 := hide hb2; clear hb2)
    | (go_at_call 16; refine (write_any 1 D _ _ (unhide HI2) (by decide)).mono ?_; rintro e w3 ⟨rfl, ht⟩; rw [(unhide HW).1]; rw [(unhide HW).2] at ht; have HT3 := hide ht; clear ht)
    | (go_at_call 18; obtain ⟨fp3, hI3, hm3, hx3⟩ := unhide HT3; refine (crash_any [1026] _ fp3 _ (hI3.grow ((Below.refl _ _).alloc (Nat.le_refl _) _)) (isInts_new _ _) (by decide)).mono ?_; rintro e w4 ⟨d4, fp4, rfl, hI4, hb4, _⟩; have HI4 := hide hI4; have HB4 := hide hb4; have HM3 := hide hm3; clear hI4 hb4 hm3 hI3 hx3)
    | (go_at_call 15; obtain ⟨fb5, lb5, ov5, hA5, _⟩ := unhide HI4; refine (read_any 1 _ hA5).mono ?_; rintro e w5 ⟨rfl, hb5⟩; rw [unhide HR]; have HB5 := hide hb5; clear hb5 hA5))
  go_ret
  have b1 := unhide HB1
  have b2 : Below w.heap.size w w2 := b1.trans ((unhide HB2).mono b1.size)
  have b3 : Below w.heap.size w w3 := Moves.below b2 (unhide HM3) (unhide HFP) b2.size
  have b4 := b3.alloc b3.size (.cells #[.int .i64 1026] 3)
  have b5 : Below w.heap.size w w4 := b4.trans ((unhide HB4).mono b4.size)
  exact ⟨rfl, b5.trans ((unhide HB5).mono b5.size)⟩

set_option maxHeartbeats 4000000 in
set_option maxRecDepth 20000 in
/-- DiskNil -/
theorem nil_walk (n : Int) (v : Value) (w : World) : Calls Try.prog 7 #[.int .i64 n, v] w fun e w' => e = .returned (.bool true) ∧ Below w.heap.size w w' := by
  go_enter Try.func7, Try.ntmps7
  go_wp2_with (first
    | (go_at_call 21; refine (power_nil n _).mono ?_; rintro e w1 ⟨rfl, rfl⟩)
    | (go_at_call 15; refine (read_nil n _).mono ?_; rintro e w1 ⟨rfl, rfl⟩)
    | (go_at_call 8; refine (awake_any _).mono ?_; rintro e w2 ⟨rfl, hb⟩)
    | (go_at_call 16; refine (write_nil n _ _).mono ?_; rintro e w1 ⟨rfl, rfl⟩)
    | (go_at_call 22; refine (flush_nil _).mono ?_; rintro e w1 ⟨rfl, rfl⟩)
    | (go_at_call 20; refine (down_nil _).mono ?_; rintro e w1 ⟨rfl, rfl⟩)
    | (go_at_call 19; refine (open_nil _).mono ?_; rintro e w1 ⟨rfl, rfl⟩)
    | (go_at_call 24; refine (sectors_nil _).mono ?_; rintro e w1 ⟨rfl, rfl⟩)
    | (go_at_call 23; refine (copy_nil _).mono ?_; rintro e w1 ⟨rfl, rfl⟩)
    | (go_at_call 18; refine (crash_nil v _).mono ?_; rintro e w1 ⟨rfl, rfl⟩))
  go_ret
  exact ⟨rfl, hb⟩
end Go.Proofs.Ytmkmebogfcbphaa
