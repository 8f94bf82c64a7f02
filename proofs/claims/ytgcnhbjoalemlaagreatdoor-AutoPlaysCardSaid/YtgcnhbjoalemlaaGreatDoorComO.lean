/- More common words, over any program: a cut of bytes, a row known whole, bytes appended to a row of the call's own. -/
import Derived.Test.YtgcnhbjoalemlaaGreatDoorJ6
import Derived.Laws.AppendOwnNone
import Derived.Laws.OwnMore
set_option linter.unusedVariables false
namespace Go.Mtl
open Go.RowKit

section
variable {w w' : World} {B n : Nat} {A : Option Addr} {bs : List UInt8}

theorem Bts.take (h : Bts w B A n bs) (m : Nat) : Bts w B A (min n m) (bs.take m) := by
  have hl := h.len
  refine ⟨by simp; omega, fun hn => ?_⟩
  obtain ⟨b, off, e, hb, hc⟩ := h.at_ (by omega)
  exact ⟨b, off, e, hb, fun j hj => by rw [hc j (by omega), byt_take _ _ _ (by omega)]⟩
theorem Bts.front (h : Bts w B A n bs) (m : Nat) (hm : m ≤ n) : Bts w B A m (bs.take m) := by
  have := h.take m
  rwa [Nat.min_eq_right hm] at this

end

end Go.Mtl
