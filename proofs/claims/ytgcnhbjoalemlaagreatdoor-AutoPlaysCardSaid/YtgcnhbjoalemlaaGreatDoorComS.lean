/- More common words, over any program: a region that reads and calls quietly, and then stores; a contract that leaves the world alone, as such a region asks for it. -/
import Derived.Test.YtgcnhbjoalemlaaGreatDoorComO
import Derived.StillTailTactics
import Derived.IntWalk
import Derived.Laws.CopyOwn
set_option linter.unusedVariables false
namespace Go.Mtl
open Go.RowKit

/-- 'go_still_tail', the world behind the draw under its name. -/
theorem region_still_tail {P : Program} {id : Nat} {Q : Exit → Act → World → Prop} {a : Act} {w : World} {l : List Oper} (n : Nat) (hm : P.follows .mixedOrders = true) (hB : Region.lexTailB .any l.toArray n = true)
    (w1 : World) (hw : w1 = w.drew) (h : wpStill P l.toArray w1 (fun a' => wpList P l.toArray Q (l.drop n) a' w1) (l.take n) a) : (Code.region id l.toArray true).wp P Q a w := by
  subst hw
  exact wp_region_still_tail n hm hB h

section
variable {P : Program} {w : World} {o : Oper} {a : Act} {K : Act → World → Prop} {Q : Exit → Act → World → Prop}
end

/-- cs laid over l from place i on. -/
def over (l : List UInt8) (i : Nat) (cs : List UInt8) : List UInt8 := l.take i ++ (cs ++ l.drop (i + cs.length))
section
variable {P : Program} {w : World} {o : Oper} {a : Act} {K : Act → World → Prop} {Q : Exit → Act → World → Prop}
end

end Go.Mtl
