/- Layer 4: the contract of package ip's Build. -/
import Derived.Test.YtjbdjplliieelaaDoorIpA
import Derived.Test.YtjbdjplliieelaaDoorIpN
set_option linter.unusedVariables false
namespace Go.Proofs.YtjbdjplliieelaaDoor
open Go.ChangeShapes Go.WideShapes Go.ChangeAt Go.RowKit Go.Mtl
namespace Ip
open IpM (word four hs tl word_lt four_lt packB row0 row1 ckB row1_sum row2_is)
open SumM (add add_le)

theorem row_of_own {w : World} {base g n : Nat} {bs : List UInt8} (h : w.ownsRow base 5 1 (.slice (some ⟨g, 0, none⟩) n n) n (bvs bs)) : Row w g bs := by
  rcases h.2 with ⟨h', _⟩ | ⟨g', cap', cur, h', _, hg, _, _, hcs, htake⟩
  · simp at h'
  · simp only [Value.slice.injEq, Option.some.injEq, Addr.mk.injEq, and_true, true_and] at h'
    obtain ⟨rfl, rfl⟩ := h'
    rw [List.take_of_length_le (by simp [hcs])] at htake
    unfold Row
    rw [← htake]
    exact hg
theorem Row.set {w : World} {g : Nat} {l : List UInt8} (h : Row w g l) (j : Nat) (x : Int) (c : UInt8) (hx : x = (c.toNat : Int)) : Row (w.setCell ⟨g, j, none⟩ (.int .u8 x)) g (l.set j c) := by
  subst hx
  have := heap_setCell_same w g j _ _ (.int .u8 (c.toNat : Int)) h
  unfold Row
  rw [this, ← bvs_set]
  simp
theorem Row.cell {w : World} {g : Nat} {l : List UInt8} (h : Row w g l) (j : Nat) (hj : j < l.length) : w.cell? ⟨g, j, none⟩ = some (.int .u8 (byt l j : Int)) := by
  rw [cell_of_row w g j _ _ _ h, List.getElem?_toArray, bvs_at l j hj]
theorem Row.frozen {w : World} {g : Nat} {l : List UInt8} (h : Row w g l) (j : Nat) : w.frozen? ⟨g, j, none⟩ = false := frozen_of_row w g j _ _ h

/-- In Build: the header's box, the packet's row l in block g, the content x. -/
structure BAt (W w : World) (B : Nat) (A : Option Addr) (n : Nat) (x : List UInt8) (g : Nat) (l : List UInt8) (pr sr ds sz ln tt id : Int) : Prop where
  hd : Hd w W.heap.size pr sr ds sz ln tt id
  row : Row w g l
  lt : W.heap.size < g
  bel : Below W.heap.size W w
  bts : Bts w B A n x
  hB : B ≤ W.heap.size
section
variable {W w w' : World} {B : Nat} {A : Option Addr} {n : Nat} {x : List UInt8} {g : Nat} {l l' : List UInt8} {pr sr ds sz ln tt id : Int}
theorem BAt.but (h : BAt W w B A n x g l pr sr ds sz ln tt id) (hr : Row w' g l') (hb : But g w w') : BAt W w' B A n x g l' pr sr ds sz ln tt id := by
  have h1 := h.row.lt
  have h2 := h.lt
  have h3 := h.hB
  refine ⟨h.hd.keep (hb.block _ (by omega) (by simp; omega)), hr, h.lt, h.bel.grown hb h.bel.size (by intro k hk; injection hk with hk; omega), h.bts.keep fun p hp => World.cell?_of_block (hb.block p.block (by omega) (by simp; omega)), h.hB⟩
theorem BAt.set (h : BAt W w B A n x g l pr sr ds sz ln tt id) (j : Nat) (v : Int) (c : UInt8) (hv : v = (c.toNat : Int)) : BAt W (w.setCell ⟨g, j, none⟩ (.int .u8 v)) B A n x g (l.set j c) pr sr ds sz ln tt id :=
  h.but (h.row.set j v c hv) (grown_setCell w g j _)
end

theorem put_len (l : List UInt8) (a s v N : Nat) (hl : l.length = N) (h : a + s ≤ N) : (over l a (FldM.cutN v s)).length = N := by
  rw [over_len _ _ _ (by rw [FldM.cutN_len]; omega), hl]
/-- What Build answers. -/
def Built (W : World) (id tt pr sr ds : Nat) (x : List UInt8) (e : Ending) (w' : World) : Prop :=
  ∃ g, e = .returned (.tuple #[.slice (some ⟨g, 0, none⟩) (20 + x.length) (20 + x.length), .int .i64 0]) ∧ Row w' g (packB id tt pr sr ds x) ∧ W.heap.size ≤ g ∧ Below W.heap.size W w'

end Ip
end Go.Proofs.YtjbdjplliieelaaDoor
