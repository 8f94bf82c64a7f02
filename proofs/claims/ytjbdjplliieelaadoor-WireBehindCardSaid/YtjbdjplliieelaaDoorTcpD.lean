/- Layer 5: the contract of package tcp's Build. -/
import Derived.Test.YtjbdjplliieelaaDoorTcpC
import Derived.Test.YtjbdjplliieelaaDoorIpD
set_option linter.unusedVariables false
set_option linter.unusedSimpArgs false
namespace Go.Proofs.YtjbdjplliieelaaDoor
open Go.ChangeShapes Go.WideShapes Go.ChangeAt Go.RowKit Go.Mtl
namespace Tc
open TcpM (saneB psB psN totN psN_le totN_le errT segB seg ckN row1)
open SumM (add add_le)
open IpM (word word_lt twoB fourB)
open Ip (ret_int MadeO Row But u8_info own_bts own_lit row_of_own put_len)

/-- In Build: the segment's row l in block g, the content x. -/
structure TAt (W w : World) (B : Nat) (A : Option Addr) (n : Nat) (x : List UInt8) (g : Nat) (l : List UInt8) : Prop where
  row : Row w g l
  lt : W.heap.size ≤ g
  bel : Below W.heap.size W w
  bts : Bts w B A n x
  hB : B ≤ W.heap.size
section
variable {W w w' : World} {B : Nat} {A : Option Addr} {n : Nat} {x : List UInt8} {g : Nat} {l l' : List UInt8}
theorem TAt.but (h : TAt W w B A n x g l) (hr : Row w' g l') (hb : But g w w') : TAt W w' B A n x g l' := by
  have h1 := h.row.lt
  have h2 := h.lt
  have h3 := h.hB
  exact ⟨hr, h.lt, h.bel.grown hb h.bel.size (by intro k hk; injection hk with hk; omega), h.bts.keep fun p hp => World.cell?_of_block (hb.block p.block (by omega) (by simp; omega)), h.hB⟩
theorem TAt.below (h : TAt W w B A n x g l) (hb : Below w.heap.size w w') : TAt W w' B A n x g l :=
  ⟨(hb.block g h.row.lt).trans h.row, h.lt, h.bel.trans (hb.mono h.bel.size), h.bts.below (hb.mono (Nat.le_trans h.hB h.bel.size)), h.hB⟩
theorem but_setCell (w : World) (g i : Nat) (u : Value) : But g w (w.setCell ⟨g, i, none⟩ u) :=
  ⟨rfl, rfl, rfl, by simp [World.setCell], fun k _ hk => Below.heap_setCell w ⟨g, i, none⟩ u k (fun e => hk (by rw [e]))⟩
theorem TAt.set (h : TAt W w B A n x g l) (j : Nat) (v : Int) (c : UInt8) (hv : v = (c.toNat : Int)) : TAt W (w.setCell ⟨g, j, none⟩ (.int .u8 v)) B A n x g (l.set j c) :=
  h.but (h.row.set j v c hv) (but_setCell w g j _)
end

/-- What Build answers. -/
def Built (W : World) (sr ds fr to fl : Nat) (x : List UInt8) (e : Ending) (w' : World) : Prop :=
  ∃ g, e = .returned (.tuple #[.slice (some ⟨g, 0, none⟩) (20 + x.length) (20 + x.length), .int .i64 0]) ∧ Row w' g (seg sr ds fr to fl x) ∧ W.heap.size ≤ g ∧ Below W.heap.size W w'

theorem known_is (f : Nat) (h : f < 256) : (bits .andNot .u8 (f : Int) 63 != 0) = decide (64 ≤ f) := by
  have : ∀ a : Fin 256, (bits .andNot .u8 (a.val : Int) 63 != 0) = decide (64 ≤ a.val) := by decide +kernel
  exact this ⟨f, h⟩

end Tc
end Go.Proofs.YtjbdjplliieelaaDoor
