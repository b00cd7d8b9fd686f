/- Where a key stands, as the program tells it. -/
import Derived.Test.YtepkifledonldaaLawwrites
namespace Go.Proofs.Ytepkifledonldaa
open Go.ChangeShapes Go.WideShapes Go.ChangeAt Go.RowKit

/-- how many keys are below, up to one that isn't; whether that is just the key -/
def findK : List ByteArray → ByteArray → Nat × Bool
  | [], _ => (0, false)
  | k :: t, key => if less k key then ((findK t key).1 + 1, (findK t key).2) else (0, k.toList == key.toList)
def Fupto (ks : List ByteArray) (key : ByteArray) (k : Nat) : Prop := findK ks key = ((findK (ks.drop k) key).1 + k, (findK (ks.drop k) key).2)
theorem Fupto.start (ks : List ByteArray) (key : ByteArray) : Fupto ks key 0 := rfl
theorem Fupto.next {ks : List ByteArray} {key x : ByteArray} {k : Nat} (h : Fupto ks key k) (hx : ks[k]? = some x) (hl : less x key = true) : Fupto ks key (k + 1) := by
  unfold Fupto at *
  rw [h, drop_get hx]
  simp only [findK, hl, if_true]
  exact Prod.ext (by show _ + 1 + k = _ + (k + 1); omega) rfl
theorem Fupto.stop {ks : List ByteArray} {key x : ByteArray} {k : Nat} (h : Fupto ks key k) (hx : ks[k]? = some x) (hl : less x key = false) : findK ks key = (k, x.toList == key.toList) := by
  rw [h, drop_get hx]
  simp [findK, hl]
theorem Fupto.done {ks : List ByteArray} {key : ByteArray} (h : Fupto ks key ks.length) : findK ks key = (ks.length, false) := by
  rw [h, List.drop_length]
  simp [findK]
theorem map_get {β : Type} {l : List (ByteArray × β)} {k : Nat} {x : ByteArray × β} (h : l[k]? = some x) : (l.map (fun x => x.1))[k]? = some x.1 := by
  rw [List.getElem?_map, h]
  rfl
theorem ret_ib {a a' : Int} {b b' : Bool} (h : a = a') (h' : b = b') : Ending.returned (.tuple #[.int .i64 a, .bool b]) = .returned (.tuple #[.int .i64 a', .bool b']) := by rw [h, h']

set_option maxRecDepth 10000 in
set_option maxHeartbeats 2000000 in
theorem findI_any (a : Option Addr) (cap : Nat) (l : List It) (key : ByteArray) (w : World) (hr : Row Value.string w a l) (hl : l.length ≤ 1000000) :
    Calls Try.prog 33 #[.slice a l.length cap, .func (.func 34) #[] #[], .string key] w fun e w' => e = .returned (.tuple #[.int .i64 ((findK (l.map (fun x => x.1)) key).1 : Int), .bool (findK (l.map (fun x => x.1)) key).2]) ∧ Below w.heap.size w w' := by
  have HR := hide hr
  clear hr
  go_enter Try.func33, Try.ntmps33
  go_wp2
  go_loopw [13] (fun t wr => ∃ k : Nat, k ≤ l.length ∧ t = .int .i64 k ∧ Fupto (l.map (fun x => x.1)) key k ∧ Below w.heap.size w wr) (fun t _ => l.length - (intOf t).toNat)
  case atStart => exact ⟨0, Nat.zero_le _, rfl, Fupto.start _ _, Below.refl _ _⟩
  case round =>
    obtain ⟨k, hk, rfl, hu, hbel⟩ := hrel
    have HU := hide hu
    have HBel := hide hbel
    clear hu hbel
    by_cases hlt : k < l.length
    · obtain ⟨b, off, rfl, hr⟩ := (unhide HR).at hlt
      obtain ⟨⟨x, val⟩, hx⟩ := get_some hlt
      have c0 := cell_keep_of (unhide HBel) (hr k _ hx).1
      have c1 := cell_keep_of (unhide HBel) (hr k _ hx).2
      simp only at c0 c1
      have HX := hide (map_get hx)
      have HB2 := hide (below_then (unhide HBel) (below_alloc wr (.cells #[.string x, .string val] 47)))
      have HC := hide (fun W => itemKey_any x val W)
      clear hx hr HR
      by_cases hls : less x key = true
      · have HLS := hide hls
        have hls' : Op.bytesLess x.toList key.toList = true := hls
        clear hls
        go_wp2_with (go_at_call 34; refine (unhide HC _).mono ?_; rintro e w3 ⟨rfl, hb⟩; have HB3 := hide (below_then (unhide HB2) hb); clear hb)
        go_roundw
        case rel => exact ⟨k + 1, by omega, by go_num, (unhide HU).next (unhide HX) (unhide HLS), unhide HB3⟩
        case measure => simp [intOf]; omega
      · have hls : less x key = false := by simpa using hls
        have HE := hide ((unhide HU).stop (unhide HX) hls)
        have hls' : Op.bytesLess x.toList key.toList = false := hls
        clear hls
        go_wp2_with (go_at_call 34; refine (unhide HC _).mono ?_; rintro e w3 ⟨rfl, hb⟩; have HB3 := hide (below_then (unhide HB2) hb); clear hb)
        go_ret2
        exact ⟨ret_ib (by rw [unhide HE]) (by rw [unhide HE]), unhide HB3⟩
    · obtain rfl : k = l.length := by omega
      have HD : Hid (findK (l.map (fun x => x.1)) key = (l.length, false)) := by
        show _ = _
        have h := unhide HU
        have e : l.length = (l.map (fun x => x.1)).length := by simp
        rw [e] at h
        rw [h.done, ← e]
      go_wp2
      go_ret2
      exact ⟨ret_ib (by rw [unhide HD]) (by rw [unhide HD]), unhide HBel⟩

set_option maxRecDepth 10000 in
set_option maxHeartbeats 2000000 in
theorem findK_any (a : Option Addr) (cap : Nat) (l : List Kd) (key : ByteArray) (w : World) (hr : Row kv w a l) (hl : l.length ≤ 1000000) :
    Calls Try.prog 35 #[.slice a l.length cap, .func (.func 36) #[] #[], .string key] w fun e w' => e = .returned (.tuple #[.int .i64 ((findK (l.map (fun x => x.1)) key).1 : Int), .bool (findK (l.map (fun x => x.1)) key).2]) ∧ Below w.heap.size w w' := by
  have HR := hide hr
  clear hr
  go_enter Try.func35, Try.ntmps35
  go_wp2
  go_loopw [13] (fun t wr => ∃ k : Nat, k ≤ l.length ∧ t = .int .i64 k ∧ Fupto (l.map (fun x => x.1)) key k ∧ Below w.heap.size w wr) (fun t _ => l.length - (intOf t).toNat)
  case atStart => exact ⟨0, Nat.zero_le _, rfl, Fupto.start _ _, Below.refl _ _⟩
  case round =>
    obtain ⟨k, hk, rfl, hu, hbel⟩ := hrel
    have HU := hide hu
    have HBel := hide hbel
    clear hu hbel
    by_cases hlt : k < l.length
    · obtain ⟨b, off, rfl, hr⟩ := (unhide HR).at hlt
      obtain ⟨⟨x, val⟩, hx⟩ := get_some hlt
      have c0 := cell_keep_of (unhide HBel) (hr k _ hx).1
      have c1 := cell_keep_of (unhide HBel) (hr k _ hx).2
      simp only at c0 c1
      have HX := hide (map_get hx)
      have HB2 := hide (below_then (unhide HBel) (below_alloc wr (.cells #[.string x, .int .i64 val] 49)))
      have HC := hide (fun W => kidKey_any x val W)
      clear hx hr HR
      by_cases hls : less x key = true
      · have HLS := hide hls
        have hls' : Op.bytesLess x.toList key.toList = true := hls
        clear hls
        go_wp2_with (go_at_call 36; refine (unhide HC _).mono ?_; rintro e w3 ⟨rfl, hb⟩; have HB3 := hide (below_then (unhide HB2) hb); clear hb)
        go_roundw
        case rel => exact ⟨k + 1, by omega, by go_num, (unhide HU).next (unhide HX) (unhide HLS), unhide HB3⟩
        case measure => simp [intOf]; omega
      · have hls : less x key = false := by simpa using hls
        have HE := hide ((unhide HU).stop (unhide HX) hls)
        have hls' : Op.bytesLess x.toList key.toList = false := hls
        clear hls
        go_wp2_with (go_at_call 36; refine (unhide HC _).mono ?_; rintro e w3 ⟨rfl, hb⟩; have HB3 := hide (below_then (unhide HB2) hb); clear hb)
        go_ret2
        exact ⟨ret_ib (by rw [unhide HE]) (by rw [unhide HE]), unhide HB3⟩
    · obtain rfl : k = l.length := by omega
      have HD : Hid (findK (l.map (fun x => x.1)) key = (l.length, false)) := by
        show _ = _
        have h := unhide HU
        have e : l.length = (l.map (fun x => x.1)).length := by simp
        rw [e] at h
        rw [h.done, ← e]
      go_wp2
      go_ret2
      exact ⟨ret_ib (by rw [unhide HD]) (by rw [unhide HD]), unhide HBel⟩

/-- the keys of a node's entries -/
def keysN (n : Nd) : List ByteArray := if n.leaf then n.its.map (fun x => x.1) else n.kds.map (fun x => x.1)

set_option maxRecDepth 10000 in
set_option maxHeartbeats 1000000 in
theorem find_any (n : Nd) (ai ak : Option Addr) (ci ck : Nat) (key : ByteArray) (w : World) (hn : Has w n ai ak) (hil : n.its.length ≤ 1000000) (hkl : n.kds.length ≤ 1000000) :
    Calls Try.prog 19 #[.agg #[.bool n.leaf, .slice ai n.its.length ci, .slice ak n.kds.length ck], .string key] w fun e w' => e = .returned (.tuple #[.int .i64 ((findK (keysN n) key).1 : Int), .bool (findK (keysN n) key).2]) ∧ Below w.heap.size w w' := by
  obtain ⟨L, its, kds⟩ := n
  simp only at hil hkl
  have hb0 := below_alloc w (.cells #[.bool L, .slice ai its.length ci, .slice ak kds.length ck] 25)
  have HI := hide (findI_any ai ci its key _ (hn.1.grow hb0) hil)
  have HK := hide (findK_any ak ck kds key _ (hn.2.grow hb0) hkl)
  have HB := hide hb0
  clear hn hb0
  cases L with
  | true =>
    have e : keysN ⟨true, its, kds⟩ = its.map (fun x => x.1) := rfl
    rw [e]
    clear e HK
    generalize findK (its.map (fun x => x.1)) key = T at *
    go_enter Try.func19, Try.ntmps19
    go_wp2_with (go_at_call 33; refine (unhide HI).mono ?_; rintro x w2 ⟨rfl, hb⟩)
    go_ret2
    exact ⟨rfl, below_then (unhide HB) hb⟩
  | false =>
    have e : keysN ⟨false, its, kds⟩ = kds.map (fun x => x.1) := rfl
    rw [e]
    clear e HI
    generalize findK (kds.map (fun x => x.1)) key = T at *
    go_enter Try.func19, Try.ntmps19
    go_wp2_with (go_at_call 35; refine (unhide HK).mono ?_; rintro x w2 ⟨rfl, hb⟩)
    go_ret2
    exact ⟨rfl, below_then (unhide HB) hb⟩
end Go.Proofs.Ytepkifledonldaa
