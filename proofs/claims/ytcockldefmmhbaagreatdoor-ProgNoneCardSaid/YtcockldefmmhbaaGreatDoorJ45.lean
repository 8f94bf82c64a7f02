/- Several texts of this proof in one file, each in its own namespace. -/
import Derived.Test.YtcockldefmmhbaaGreatDoorSorI
import Derived.Test.YtcockldefmmhbaaGreatDoorJ13
import Derived.Test.YtcockldefmmhbaaGreatDoorJ43
import Derived.Shelf.SlSortFuncK.BreakPatternsK
import Derived.Shelf.SlSortFuncK.ComposeK
import Derived.Shelf.SlSortFuncK.RowK2
import Derived.Shelf.GgSortFunc.SmallK
/- sort.Slice of keys: the row, its order, its exchanges. -/
set_option linter.unusedVariables false
set_option linter.unusedSimpArgs false
set_option maxRecDepth 100000
namespace Go.Proofs.YtcockldefmmhbaaGreatDoor
open Go.ChangeShapes Go.WideShapes Go.ChangeAt Go.RowKit Go.Mtl Go.Lib
namespace Au
open AutM
open Go.Shelf
open Go.Sort hiding Below
abbrev KO := {k : Ke // k.Ok}
instance : Inhabited KO := ⟨⟨⟨0, 0, 0, 0, 0⟩, ⟨by decide, by decide, by decide, by decide, by decide⟩⟩⟩
def encK (k : KO) : List Value := [.int .u32 (k.1.a : Int), .int .u32 (k.1.b : Int), .int .u16 (k.1.p : Int), .int .u16 (k.1.q : Int), .int .u8 (k.1.r : Int)]
def ltK (x y : KO) : Bool := decide (x.1.num < y.1.num)
theorem ltK_swo : Sort.SWO ltK where
  irrefl x := by unfold ltK; simp
  trans x y z h1 h2 := by unfold ltK at *; simp only [decide_eq_true_eq] at *; omega
  ntrans x y z h1 h2 := by unfold ltK at *; simp only [decide_eq_false_iff_not] at *; omega
theorem encK_len (x : KO) : (encK x).length = 5 := rfl
/-- The row holds d; the box c of the slice; n elements; all of it lies below m. -/
structure RowK (blk cb m n cap : Nat) (W : World) (d : Array KO) : Prop where
  holds : HoldsK encK 5 W blk 0 d
  size : d.size = n
  box : W.cell? ⟨cb, 0, none⟩ = some (.slice (some ⟨blk, 0, none⟩) n cap)
  le : m ≤ W.heap.size
  bm : blk < m
  cm : cb < m
theorem RowK.keep {blk cb m n cap : Nat} {W W' : World} {d : Array KO} (H : RowK blk cb m n cap W d) (h : ∀ j, j < m → W'.heap[j]? = W.heap[j]?) (hs : W.heap.size ≤ W'.heap.size) : RowK blk cb m n cap W' d :=
  ⟨fun j hj => ⟨(World.cell?_of_block (h blk H.bm)).trans (H.holds j hj).1, (World.frozen?_of_block (h blk H.bm)).trans (H.holds j hj).2⟩, H.size, (World.cell?_of_block (h cb H.cm)).trans H.box, Nat.le_trans H.le hs, H.bm, H.cm⟩
theorem bar_put (W : World) (blk off : Nat) (d : Array KO) : Bar blk W (putRowK encK 5 W blk off d) :=
  ⟨rfl, rfl, rfl, by simp [putRowK, Sort.putRow, Sort.mapBlock], fun j _ hn => by simp [putRowK, Sort.putRow, Sort.mapBlock, Array.getElem?_modify, Ne.symm hn]⟩
/-- The row laid anew. -/
theorem RowK.put {blk cb m n cap : Nat} {W : World} {d d' : Array KO} (H : RowK blk cb m n cap W d) (hne : cb ≠ blk) (hd : d'.size = n) : RowK blk cb m n cap (putRowK encK 5 W blk 0 d') d' :=
  ⟨holdsK_putRowK encK 5 W blk 0 d d' H.holds (hd.trans H.size.symm), hd, by rw [cell?_putRowK_other encK 5 W blk 0 d' _ hne]; exact H.box, Nat.le_trans H.le (bar_put W blk 0 d').size, H.bm, H.cm⟩
theorem RowK.swap {blk cb m n cap : Nat} {W : World} {d : Array KO} (H : RowK blk cb m n cap W d) (hne : cb ≠ blk) (i j : Nat) (hi : i < n) (hj : j < n) :
    RowK blk cb m n cap ((W.setCells blk (0 + i * 5) (encK d[j]!)).setCells blk (0 + j * 5) (encK d[i]!)) (Sort.swp d i j) ∧ Bar blk W ((W.setCells blk (0 + i * 5) (encK d[j]!)).setCells blk (0 + j * 5) (encK d[i]!)) := by
  have h := putRowK_swp encK 5 encK_len W blk 0 d i j (by rw [H.size]; exact hi) (by rw [H.size]; exact hj)
  rw [putRowK_self encK 5 W blk 0 d H.holds] at h
  rw [h]
  exact ⟨H.put hne (by rw [Sort.size_swp]; exact H.size), bar_put _ _ _ _⟩
end Au
end Go.Proofs.YtcockldefmmhbaaGreatDoor
/- The comparison of Keys: the function literal. (Written by wip/tools/mkSorK.py.) -/
set_option linter.unusedVariables false
set_option linter.unusedSimpArgs false
set_option maxRecDepth 100000
namespace Go.Proofs.YtcockldefmmhbaaGreatDoor
open Go.ChangeShapes Go.WideShapes Go.ChangeAt Go.RowKit Go.Mtl Go.Lib
namespace Au
open AutM
open Go.Shelf
open Go.Sort hiding Below
/-- One element's five cells. -/
structure At5 (W : World) (blk i : Nat) (k : Ke) : Prop where
  c0 : W.cell? ⟨blk, i * 5, none⟩ = some (.int .u32 (k.a : Int))
  c1 : W.cell? ⟨blk, i * 5 + 1, none⟩ = some (.int .u32 (k.b : Int))
  c2 : W.cell? ⟨blk, i * 5 + 2, none⟩ = some (.int .u16 (k.p : Int))
  c3 : W.cell? ⟨blk, i * 5 + 3, none⟩ = some (.int .u16 (k.q : Int))
  c4 : W.cell? ⟨blk, i * 5 + 4, none⟩ = some (.int .u8 (k.r : Int))
theorem RowK.at5 {blk cb m n cap : Nat} {W : World} {d : Array KO} (H : RowK blk cb m n cap W d) (i : Nat) (hi : i < n) : At5 W blk i d[i]!.1 := by
  have hh : ∀ u, u < 5 → W.cell? ⟨blk, 0 + i * 5 + u, none⟩ = some ((encK d[i]!)[u]!) := fun u hu => (H.holds.cell (by rw [H.size]; exact hi) hu).1
  refine ⟨?_, ?_, ?_, ?_, ?_⟩
  · have := hh 0 (by omega); rw [show 0 + i * 5 + 0 = i * 5 by omega] at this; exact this
  · have := hh 1 (by omega); rw [show 0 + i * 5 + 1 = i * 5 + 1 by omega] at this; exact this
  · have := hh 2 (by omega); rw [show 0 + i * 5 + 2 = i * 5 + 2 by omega] at this; exact this
  · have := hh 3 (by omega); rw [show 0 + i * 5 + 3 = i * 5 + 3 by omega] at this; exact this
  · have := hh 4 (by omega); rw [show 0 + i * 5 + 4 = i * 5 + 4 by omega] at this; exact this
theorem less_is (x y : KO) : KeyM.lessB x.1.a x.1.b x.1.p x.1.q x.1.r y.1.a y.1.b y.1.p y.1.q y.1.r = ltK x y := Ke.less_is x.2 y.2
theorem RowK.keepB {blk cb m n cap : Nat} {W W' : World} {d : Array KO} (H : RowK blk cb m n cap W d) (hb : Below W.heap.size W W') : RowK blk cb m n cap W' d := H.keep (fun j hj => hb.block j (Nat.lt_of_lt_of_le hj H.le)) hb.size
theorem below_two {w w1 w2 : World} (h : Below w.heap.size w w1) (h2 : Below w1.heap.size w1 w2) : Below w.heap.size w w2 := h.trans (h2.mono h.size)

end Au
end Go.Proofs.YtcockldefmmhbaaGreatDoor
