/- Several texts of this proof in one file, each in its own namespace. -/
import Derived.Test.YtgcnhbjoalemlaaJ1
import Derived.Lib.Fields
import Derived.Lib.Space
/- Plain mathematics of layer 11: the lines and words of a text, byte by byte; the same out of its pieces; what is put together of the words again. Nothing of any program. -/
set_option linter.unusedVariables false
set_option linter.unusedSimpArgs false
namespace Go.TxtM
open Go.Lib Go.AdrM

abbrev Line := Nat × List (List UInt8)
/-! What Lines answers. -/
/-! The first byte that may not occur. -/
/-! Of pieces. -/
/-- What is ahead of the first #. -/
def ahead : List UInt8 → List UInt8
  | [] => []
  | b :: l => if b = 35 then [] else b :: ahead l
/-! Steps of the reference's reading. -/
/-! Put together again. -/
def Clean (w : List UInt8) : Prop := w ≠ [] ∧ ∀ b ∈ w, 33 ≤ b.toNat ∧ b.toNat ≤ 126 ∧ b ≠ 35
def Good : Nat → List Line → Prop
  | _, [] => True
  | m, (n, ws) :: ls => m ≤ n ∧ ws ≠ [] ∧ (∀ w ∈ ws, Clean w) ∧ Good (n + 1) ls
theorem Good.mono : ∀ {ls : List Line} {m m' : Nat}, Good m ls → m' ≤ m → Good m' ls
  | [], _, _, _, _ => trivial
  | (n, ws) :: ls, _, _, h, hm => ⟨Nat.le_trans hm h.1, h.2⟩
/-! Reading it again. -/
end Go.TxtM
/- Plain mathematics of layer 12: rules, their lines, what lines compile to; printed rules compile unchanged. Nothing of any program. -/
set_option linter.unusedVariables false
set_option linter.unusedSimpArgs false
namespace Go.RulM
open Go.Lib Go.AdrM
open Go.TxtM (Line)

/-- A rule, by its ten cells. -/
structure R where
  acc : Bool
  pr : Nat
  sa : Nat
  sb : Int
  da : Nat
  db : Int
  sl : Nat
  sh : Nat
  dl : Nat
  dh : Nat
deriving DecidableEq
/-- Its cells are values of their types. -/
structure R.Ok (r : R) : Prop where
  pr : r.pr < 256
  sa : r.sa < 4294967296
  sb : -9223372036854775808 ≤ r.sb ∧ r.sb ≤ 9223372036854775807
  da : r.da < 4294967296
  db : -9223372036854775808 ≤ r.db ∧ r.db ≤ 9223372036854775807
  sl : r.sl < 65536
  sh : r.sh < 65536
  dl : r.dl < 65536
  dh : r.dh < 65536

/-! What has no space in it. -/
def Ink (w : List UInt8) : Prop := ∀ b ∈ w, 33 ≤ b.toNat ∧ b.toNat ≤ 126 ∧ b ≠ 35
instance (w : List UInt8) : Decidable (Ink w) := inferInstanceAs (Decidable (∀ b ∈ w, _))
/-! Lines put together and parted again. -/
/-! Lengths. -/
/-! Ports. -/
/-! Protocols. -/
/-! A line of words. -/
/-! Lists of lines. -/
/-! Printed rules, read again. -/
end Go.RulM
