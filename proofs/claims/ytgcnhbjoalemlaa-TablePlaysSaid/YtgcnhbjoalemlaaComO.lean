/- More common words, over any program: a cut of bytes, a row known whole, bytes appended to a row of the call's own. -/
import Derived.Test.YtgcnhbjoalemlaaJ5
import Derived.Laws.AppendOwnNone
import Derived.Laws.OwnMore
set_option linter.unusedVariables false
namespace Go.Mtl
open Go.RowKit

section
variable {w w' : World} {B n : Nat} {A : Option Addr} {bs : List UInt8}

theorem Bts.take (h : Bts w B A n bs) (m : Nat) : Bts w B A (min n m) (bs.take m) := by
  have hl := h.len
  refine ⟨by simp; omega, fun hn => ?_⟩
  obtain ⟨b, off, e, hb, hc⟩ := h.at_ (by omega)
  exact ⟨b, off, e, hb, fun j hj => by rw [hc j (by omega), byt_take _ _ _ (by omega)]⟩
/-- A row of the call's own, under 'Below'. -/
theorem own_below {base e size n : Nat} {v : Value} {xs : List Value} (h : w.ownsRow base e size v n xs) (hb : Below w.heap.size w w') : w'.ownsRow base e size v n xs :=
  h.kept (row := none) ⟨hb.os, hb.tape, hb.output, hb.size, fun j hj _ => hb.block j hj⟩ (by cases hv : v.ownBlock <;> simp)
end

end Go.Mtl
