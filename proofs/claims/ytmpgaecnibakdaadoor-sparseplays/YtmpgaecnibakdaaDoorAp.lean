/- Append of one byte, of one piece, of one range to a row of one's own. -/
import Derived.Test.YtmpgaecnibakdaaDoorRd
namespace Go.Proofs.YtmpgaecnibakdaaDoor
open Go.ChangeShapes Go.WideShapes Go.ChangeAt Go.RowKit

theorem app_byte {ops : Array Oper} {rest : List Oper} {o : Oper} {a : Act} {Q : Exit → Act → World → Prop} {B : Nat} {wr : World} {v : Value} {l : List UInt8} (x : UInt8)
    (hwant : Region.wanted o (yielded ops a.tmps) = true) (s y : Operand) (ho : o.op = .call { callee := .builtin .append, args := #[s, y], argTypes := #[63, 63] })
    (hs : a.eval s = v) (hx : a.eval y = .slice (some ⟨wr.heap.size, 0, none⟩) 1 1) (hB : B ≤ wr.heap.size) (hown : OwnB B wr v l) (hlen : l.length ≤ 1000000)
    (h : ∀ a' cap' w', OwnB B w' (.slice a' (l.length + 1) cap') (l ++ [x]) → Below B wr w' → wpList Tryd.prog ops Q rest (a.put o.dst (.slice a' (l.length + 1) cap')) w') :
    wpList Tryd.prog ops Q (o :: rest) a (wr.alloc (.cells #[.int .u8 (x.toNat : Int)] 5)) :=
  app_gen (e := 5) (news := [.int .u8 (x.toNat : Int)]) Tryd.underlying63 info5 rfl (by decide) hwant s y ho hs hx hown hB rfl (by intro u hu; simp at hu; subst hu; rfl) (by omega) (by omega)
    (fun a' cap' w' ho hg _ => h a' cap' w' (OwnB.snoc ho) ((Below.refl B wr).grown hg hB (fun k hk => (World.ownsRow.lt hown k hk).1)))
theorem app_pc {ops : Array Oper} {rest : List Oper} {o : Oper} {a : Act} {Q : Exit → Act → World → Prop} {B : Nat} {wr : World} {v : Value} {l : List Pc} (ix : Int) (da : List UInt8)
    (hwant : Region.wanted o (yielded ops a.tmps) = true) (s y : Operand) (ho : o.op = .call { callee := .builtin .append, args := #[s, y], argTypes := #[22, 22] })
    (hs : a.eval s = v) (hx : a.eval y = .slice (some ⟨wr.heap.size, 0, none⟩) 1 1) (hB : B ≤ wr.heap.size) (hown : OwnP B wr v l) (hlen : l.length ≤ 1000000)
    (h : ∀ a' cap' w', OwnP B w' (.slice a' (l.length + 1) cap') (l ++ [(ix, da)]) → Below B wr w' → wpList Tryd.prog ops Q rest (a.put o.dst (.slice a' (l.length + 1) cap')) w') :
    wpList Tryd.prog ops Q (o :: rest) a (wr.alloc (.cells #[.int .i64 ix, .string (tx da)] 58)) :=
  app_gen (e := 58) (news := [.int .i64 ix, .string (tx da)]) Tryd.underlying22 info58 rfl (by decide) hwant s y ho hs hx hown hB rfl (by intro u hu; simp at hu; rcases hu with rfl | rfl <;> rfl) (by omega) (by omega)
    (fun a' cap' w' ho hg _ => h a' cap' w' (OwnP.snoc (x := (ix, da)) ho) ((Below.refl B wr).grown hg hB (fun k hk => (World.ownsRow.lt hown k hk).1)))
theorem app_rg {ops : Array Oper} {rest : List Oper} {o : Oper} {a : Act} {Q : Exit → Act → World → Prop} {B : Nat} {wr : World} {v : Value} {l : List Rg} (x y' : Int)
    (hwant : Region.wanted o (yielded ops a.tmps) = true) (s y : Operand) (ho : o.op = .call { callee := .builtin .append, args := #[s, y], argTypes := #[46, 46] })
    (hs : a.eval s = v) (hx : a.eval y = .slice (some ⟨wr.heap.size, 0, none⟩) 1 1) (hB : B ≤ wr.heap.size) (hown : OwnR B wr v l) (hlen : l.length ≤ 1000000)
    (h : ∀ a' cap' w', OwnR B w' (.slice a' (l.length + 1) cap') (l ++ [(x, y')]) → Below B wr w' → wpList Tryd.prog ops Q rest (a.put o.dst (.slice a' (l.length + 1) cap')) w') :
    wpList Tryd.prog ops Q (o :: rest) a (wr.alloc (.cells #[.int .i64 x, .int .i64 y'] 52)) :=
  app_gen (e := 52) (news := [.int .i64 x, .int .i64 y']) Tryd.underlying46 info52 rfl (by decide) hwant s y ho hs hx hown hB rfl (by intro u hu; simp at hu; rcases hu with rfl | rfl <;> rfl) (by omega) (by omega)
    (fun a' cap' w' ho hg _ => h a' cap' w' (OwnR.snoc (x := (x, y')) ho) ((Below.refl B wr).grown hg hB (fun k hk => (World.ownsRow.lt hown k hk).1)))
end Go.Proofs.YtmpgaecnibakdaaDoor
