/- More common words, over any program: append onto a row of the call's own, what is new handed on hidden, the frame with it. -/
import Derived.Test.YtbikbccmnmbkfaaComT
set_option linter.unusedVariables false
namespace Go.Mtl
open Go.RowKit
section
variable {P : Program} {w : World} {o : Oper} {a : Act} {Q : Exit → Act → World → Prop}
/-- 'append(out, x...)': out a row that the call W0 made, x bytes that came in or that were made. -/
theorem wpList_append_hid {ops : Array Oper} {rest : List Oper} {W0 : World} (k : Nat) (hgd : o.guard = none) (s x : Operand) (t : TypeId)
    (ho : o.op = .call { callee := .builtin .append, args := #[s, x], argTypes := #[t, t] })
    (e : TypeId) (i : TypeInfo) (ht : P.underlying t = some (.slice e)) (hi : P.info? e = some i) (hz : i.zero = some (.int .u8 0)) (hsize : i.size = 1) (hby : i.bytes = 1)
    (v : Value) (n : Nat) (xs : List UInt8) (hs : a.eval s = v) (hown : w.ownsRow W0.heap.size e 1 v n (bvs xs)) (hbel : Below W0.heap.size W0 w)
    (B : Nat) (A : Option Addr) (m c : Nat) (ys : List UInt8) (hx : a.eval x = .slice A m c) (hr : Bts w B A m ys) (hk : n + m = k) (hn : k ≤ 1073741824)
    (h : ∀ A' c' w', Hid (w'.ownsRow W0.heap.size e 1 (.slice A' k c') k (bvs (xs ++ ys))) → Hid (Below W0.heap.size W0 w') → Hid (w.grownBy w' v.ownBlock) → Hid (k ≤ c' ∧ c' ≤ 9223372036854775807) → wpList P ops Q rest (a.put o.dst (.slice A' k c')) w') :
    wpList P ops Q (o :: rest) a w :=
  wpList_append_at k hgd s x t ho W0.heap.size e i ht hi hz hsize hby v n xs hs hown B A m c ys hx hr hk hn hbel.size
    fun A' c' w' h1 h2 h3 => h A' c' w' (Lib.hid h1) (Lib.hid (hbel.grown h2 hbel.size fun k hk => (hown.lt k hk).1)) (Lib.hid h2) (Lib.hid h3)
end
theorem below_drewN' {B : Nat} {a w : World} (h : Below B a w) (n : Nat) : Below B a (w.drewN n) := ⟨h.os, h.tape, h.output, h.size, h.block⟩
end Go.Mtl
