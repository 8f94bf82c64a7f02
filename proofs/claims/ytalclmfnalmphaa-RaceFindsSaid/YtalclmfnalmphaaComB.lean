/- Blocks that hold a struct, whatever its cells: what they read, what keeps them, what a store makes of them. Over any program. -/
import Derived.Test.YtalclmfnalmphaaCom
import Derived.Laws.Rows
set_option linter.unusedVariables false
namespace Go.Mtl
open Go.RowKit
/-- Block g holds the cells cs of a value of type t. -/
def Blk (w : World) (g : Nat) (cs : Array Value) (t : TypeId) : Prop := w.heap[g]? = some (.cells cs t (0, 0))
section
variable {w w' : World} {g : Nat} {cs : Array Value} {t : TypeId}
theorem Blk.box (w : World) (cs : Array Value) (t : TypeId) : Blk (w.alloc (.cells cs t)) w.heap.size cs t := heap_alloc_new w _
theorem Blk.lt (H : Blk w g cs t) : g < w.heap.size := by
  rcases Nat.lt_or_ge g w.heap.size with hlt | hge
  · exact hlt
  · unfold Blk at H; rw [Array.getElem?_eq_none hge] at H; cases H
theorem Blk.keep (H : Blk w g cs t) (hk : w'.heap[g]? = w.heap[g]?) : Blk w' g cs t := hk.trans H
theorem Blk.next (H : Blk w g cs t) (hb : Below w.heap.size w w') : Blk w' g cs t := H.keep (hb.block g H.lt)
theorem Blk.below {B : Nat} (H : Blk w g cs t) (hb : Below B w w') (hg : g < B) : Blk w' g cs t := H.keep (hb.block g hg)
theorem Blk.alloc (H : Blk w g cs t) (o : Obj) : Blk (w.alloc o) g cs t := H.next ((Below.refl _ _).alloc (Nat.le_refl _) o)
theorem Blk.drewN (H : Blk w g cs t) (k : Nat) : Blk (w.drewN k) g cs t := H
theorem Blk.drew (H : Blk w g cs t) : Blk w.drew g cs t := H
theorem Blk.other (H : Blk w g cs t) (k i : Nat) (hk : g ≠ k) (v : Value) : Blk (w.setCell ⟨k, i, none⟩ v) g cs t := H.keep (Below.heap_setCell _ _ _ _ hk)
theorem Blk.cell (H : Blk w g cs t) (i : Nat) (v : Value) (h : cs[i]? = some v) : w.cell? ⟨g, i, none⟩ = some v := (cell_of_row w g i _ _ _ H).trans h
theorem Blk.frozen (H : Blk w g cs t) (i : Nat) : w.frozen? ⟨g, i, none⟩ = false := frozen_of_row w g i _ _ H
theorem Blk.set (H : Blk w g cs t) (i : Nat) (v : Value) : Blk (w.setCell ⟨g, i, none⟩ v) g (cs.setIfInBounds i v) t := heap_setCell_same w g i _ _ v H
theorem Blk.set' (H : Blk w g cs t) (i : Nat) (v : Value) {cs' : Array Value} (h : cs.setIfInBounds i v = cs') : Blk (w.setCell ⟨g, i, none⟩ v) g cs' t := h ▸ H.set i v
/-- The block behind the next one. -/
theorem Blk.box1 (w : World) (o : Obj) (cs : Array Value) (t : TypeId) : Blk ((w.alloc o).alloc (.cells cs t)) (w.heap.size + 1) cs t := by
  have := Blk.box (w.alloc o) cs t
  rwa [World.size_alloc] at this
theorem Blk.box2 (w : World) (o o2 : Obj) (cs : Array Value) (t : TypeId) : Blk (((w.alloc o).alloc o2).alloc (.cells cs t)) (w.heap.size + 2) cs t := by
  have := Blk.box ((w.alloc o).alloc o2) cs t
  rwa [World.size_alloc, World.size_alloc] at this
theorem _root_.Go.RowKit.Below.drews {B : Nat} {w w' : World} (hb : Below B w w') (n : Nat) : Below B w (w'.drewN n) := hb.trans ⟨rfl, rfl, rfl, Nat.le_refl _, fun _ _ => rfl⟩
end
end Go.Mtl
