/- Several texts of this proof in one file, each in its own namespace. -/
import Derived.Lib.ItoaNum
import Derived.Lib.ParseIntBCases
import Derived.Lib.SplitLaws
import Derived.Lib.Split
import Derived.Lib.IndexMore
import Derived.Lib.IndexBytes
/- Plain mathematics of layer 3: the texts of addresses and networks, as lists of bytes. Nothing of any program. -/
set_option linter.unusedVariables false
set_option linter.unusedSimpArgs false
namespace Go.AdrM
open Go.Lib

/-! What ParseUint at 8 bits makes of it. -/
/-! Splitting at one byte. -/
/-! Addresses. -/
def b3 (a : Nat) : Nat := a / 16777216
def b2 (a : Nat) : Nat := a / 65536 % 256
def b1 (a : Nat) : Nat := a / 256 % 256
def b0 (a : Nat) : Nat := a % 256
/-! Networks. -/
def left (l : List UInt8) : List UInt8 := l.takeWhile (· != 47)
def right (l : List UInt8) : List UInt8 := (l.dropWhile (· != 47)).drop 1
/-! Halves. -/
end Go.AdrM
/- Plain mathematics of layer 3, second part: what the library's Split and Cut give, folds over pieces, what the reference's loops give. Nothing of any program. -/
set_option linter.unusedVariables false
set_option linter.unusedSimpArgs false
namespace Go.AdrM
open Go.Lib

end Go.AdrM
/- Plain mathematics of layer 11, second part: numbers out of their digits, up to 2^62. Nothing of any program. -/
set_option linter.unusedVariables false
set_option linter.unusedSimpArgs false
namespace Go.TxtM
open Go.Lib Go.AdrM

end Go.TxtM
