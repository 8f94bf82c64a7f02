/- More common words, over any program: append onto a row of the call's own, the new length under a name. -/
import Derived.Test.YtbikbccmnmbkfaaComS
set_option linter.unusedVariables false
namespace Go.Mtl
open Go.RowKit
section
variable {P : Program} {w : World} {o : Oper} {a : Act} {K : Act → World → Prop} {Q : Exit → Act → World → Prop}
theorem wpList_append_at {ops : Array Oper} {rest : List Oper} (k : Nat) (hgd : o.guard = none) (s x : Operand) (t : TypeId)
    (ho : o.op = .call { callee := .builtin .append, args := #[s, x], argTypes := #[t, t] })
    (base : Nat) (e : TypeId) (i : TypeInfo) (ht : P.underlying t = some (.slice e)) (hi : P.info? e = some i) (hz : i.zero = some (.int .u8 0)) (hsize : i.size = 1) (hby : i.bytes = 1)
    (v : Value) (n : Nat) (xs : List UInt8) (hs : a.eval s = v) (hown : w.ownsRow base e 1 v n (bvs xs))
    (B : Nat) (A : Option Addr) (m c : Nat) (ys : List UInt8) (hx : a.eval x = .slice A m c) (hr : Bts w B A m ys) (hk : n + m = k) (hn : k ≤ 1073741824) (hbase : base ≤ w.heap.size)
    (h : ∀ A' c' w', w'.ownsRow base e 1 (.slice A' k c') k (bvs (xs ++ ys)) → w.grownBy w' v.ownBlock → (k ≤ c' ∧ c' ≤ 9223372036854775807) → wpList P ops Q rest (a.put o.dst (.slice A' k c')) w') :
    wpList P ops Q (o :: rest) a w := by
  subst hk
  exact wpList_append_bts hgd s x t ho base e i ht hi hz hsize hby v n xs hs hown B A m c ys hx hr hn hbase h
theorem step_append_at {ops : Array Oper} {E : Prop} (k : Nat) (hgd : o.guard = none) (s x : Operand) (t : TypeId)
    (ho : o.op = .call { callee := .builtin .append, args := #[s, x], argTypes := #[t, t] })
    (base : Nat) (e : TypeId) (i : TypeInfo) (ht : P.underlying t = some (.slice e)) (hi : P.info? e = some i) (hz : i.zero = some (.int .u8 0)) (hsize : i.size = 1) (hby : i.bytes = 1)
    (v : Value) (n : Nat) (xs : List UInt8) (hs : a.eval s = v) (hown : w.ownsRow base e 1 v n (bvs xs))
    (B : Nat) (A : Option Addr) (m c : Nat) (ys : List UInt8) (hx : a.eval x = .slice A m c) (hr : Bts w B A m ys) (hk : n + m = k) (hn : k ≤ 1073741824) (hbase : base ≤ w.heap.size)
    (h : ∀ A' c' w', w'.ownsRow base e 1 (.slice A' k c') k (bvs (xs ++ ys)) → w.grownBy w' v.ownBlock → (k ≤ c' ∧ c' ≤ 9223372036854775807) → K (a.put o.dst (.slice A' k c')) w') :
    if Region.wanted o (yielded ops a.tmps) = true then Oper.wp P o a w K Q else E := by
  subst hk
  exact step_append_bts hgd s x t ho base e i ht hi hz hsize hby v n xs hs hown B A m c ys hx hr hn hbase h
end
end Go.Mtl
