/- Layer 4: the contract of the reference's Build. -/
import Derived.Test.YtjbdjplliieelaaDoorIpD
import Derived.Test.YtjbdjplliieelaaDoorComT
set_option linter.unusedVariables false
namespace Go.Proofs.YtjbdjplliieelaaDoor
open Go.ChangeShapes Go.WideShapes Go.ChangeAt Go.RowKit Go.Mtl
namespace Ip
open IpM (twoB fourB outB tailB ckB packB)
open SumM (add add_le)

/-- What the reference's Build keeps: the header's box, and all that was there ahead of it. -/
abbrev S7 (W1 w : World) (G : Nat) (pr sr ds tt id : Int) : Prop :=
  w.cell? ⟨G, 0, none⟩ = some (.int .u8 pr) ∧ w.cell? ⟨G, 1, none⟩ = some (.int .u32 sr) ∧ w.cell? ⟨G, 2, none⟩ = some (.int .u32 ds) ∧ w.cell? ⟨G, 5, none⟩ = some (.int .u8 tt) ∧ w.cell? ⟨G, 6, none⟩ = some (.int .u16 id) ∧ Hid (Below W1.heap.size W1 w)
section
variable {W1 w w' : World} {G : Nat} {pr sr ds sz ln tt id : Int}
theorem S7.mk (hx : Hid (Hd W1 G pr sr ds sz ln tt id)) (hb : Below W1.heap.size W1 w) : S7 W1 w G pr sr ds tt id := by
  obtain ⟨h0, h1, h2, _, _, h5, h6⟩ := (hx.out.next hb).cells
  exact ⟨h0, h1, h2, h5, h6, hb⟩
theorem S7.bel (h : S7 W1 w G pr sr ds tt id) : Below W1.heap.size W1 w := h.2.2.2.2.2.out
theorem S7.size1 {W : World} (hg : Hid (W1.heap.size = W.heap.size + 1)) (h : S7 W1 w G pr sr ds tt id) : W.heap.size + 1 ≤ w.heap.size := by rw [← hg.out]; exact h.bel.size
theorem S7.next (hx : Hid (Hd W1 G pr sr ds sz ln tt id)) (h : S7 W1 w G pr sr ds tt id) (hb : Below w.heap.size w w') : S7 W1 w' G pr sr ds tt id := S7.mk hx (h.bel.trans (hb.mono h.bel.size))
theorem S7.alloc (hx : Hid (Hd W1 G pr sr ds sz ln tt id)) (h : S7 W1 w G pr sr ds tt id) (o : Obj) : S7 W1 (w.alloc o) G pr sr ds tt id := S7.mk hx (h.bel.alloc h.bel.size o)
theorem S7.grown (hx : Hid (Hd W1 G pr sr ds sz ln tt id)) (h : S7 W1 w G pr sr ds tt id) {v : Value} {base n : Nat} {xs : List Value} (ho : w.ownsRow base 5 1 v n xs) (hB : W1.heap.size ≤ base) (hg : w.grownBy w' v.ownBlock) : S7 W1 w' G pr sr ds tt id :=
  S7.mk hx (h.bel.grown hg h.bel.size fun k hk => Nat.le_trans hB (ho.lt k hk).1)
end
theorem four_lit (tt pr : Nat) (ht : tt < 256) (hp : pr < 256) : (#[.int .u8 0, .int .u8 0, .int .u8 tt, .int .u8 pr] : Array Value) = (bvs [0, 0, UInt8.ofNat tt, UInt8.ofNat pr]).toArray := by
  simp [bvs]; omega
theorem Row.keep {w w' : World} {g : Nat} {bs : List UInt8} (h : Row w g bs) (hk : w'.heap[g]? = w.heap[g]?) : Row w' g bs := hk.trans h
/-- A row of the call's own, while another row grows. -/
theorem own_other {w w' : World} {base b2 n m : Nat} {v u : Value} {xs ys : List Value} (h : w.ownsRow base 5 1 v n xs) (h2 : w.ownsRow b2 5 1 u m ys) (hg : w.grownBy w' u.ownBlock) (hne : ∀ k, u.ownBlock = some k → k < base) : w'.ownsRow base 5 1 v n xs := by
  refine h.kept hg ?_
  cases hv : v.ownBlock with
  | none => exact .inl rfl
  | some k =>
    refine .inr fun e => ?_
    have h3 := (h.lt k hv).1
    have h4 := hne k e.symm
    omega

theorem own_above {w w' : World} {base b2 n m : Nat} {v u : Value} {xs ys : List Value} (h : w.ownsRow base 5 1 v n xs) (h2 : w.ownsRow b2 5 1 u m ys) (hg : w.grownBy w' u.ownBlock) (hne : ∀ k, v.ownBlock = some k → k < b2) : w'.ownsRow base 5 1 v n xs := by
  refine h.kept hg ?_
  cases hv : v.ownBlock with
  | none => exact .inl rfl
  | some k =>
    refine .inr fun e => ?_
    have h3 := (h2.lt k e.symm).1
    have h4 := hne k hv
    omega
theorem rbuilt_bts {w : World} {base N n c id tt pr sr ds K : Nat} {A : Option Addr} {x : List UInt8} (h1 : 20 + x.length = N) (hl : x.length = n) (hn : 20 + n = N) (hk : K = ckB n id tt pr sr ds)
    (h : w.ownsRow base 5 1 (.slice A N c) N (bvs ((outB n id tt pr ++ twoB K) ++ tailB sr ds ++ x))) : Bts w w.heap.size A N (packB id tt pr sr ds x) := by
  subst hl
  subst hk
  exact own_bts h

/-- What the reference's Build answers. -/
def RBuilt (W : World) (id tt pr sr ds : Nat) (x : List UInt8) (e : Ending) (w' : World) : Prop :=
  ∃ A c, e = .returned (.tuple #[.slice A (20 + x.length) c, .int .i64 0]) ∧ Bts w' w'.heap.size A (20 + x.length) (packB id tt pr sr ds x) ∧ (20 + x.length ≤ c ∧ c ≤ 9223372036854775807) ∧ Below W.heap.size W w'

end Ip
end Go.Proofs.YtjbdjplliieelaaDoor
