/- Several texts of this proof in one file, each in its own namespace. -/
import Derived.Lib.ItoaNum
import Derived.Lib.ParseIntBCases
import Derived.Lib.SplitLaws
import Derived.Lib.Split
import Derived.Lib.IndexMore
import Derived.Lib.IndexBytes
/- Plain mathematics of layer 3: the texts of addresses and networks, as lists of bytes. Nothing of any program. -/
set_option linter.unusedVariables false
set_option linter.unusedSimpArgs false
namespace Go.AdrM
open Go.Lib

theorem decDigits_len_le : ∀ (k n : Nat), n < 10 ^ (k + 1) → (decDigits n).length ≤ k + 1 := by
  intro k
  induction k with
  | zero => intro n h; rw [decDigits, dif_pos (by omega)]; simp
  | succ k ih =>
    intro n h
    rw [decDigits]
    split
    · simp
    · rename_i h10
      have := ih (n / 10) (by rw [Nat.pow_succ] at h; omega)
      simp; omega
/-! What ParseUint at 8 bits makes of it. -/
/-! Splitting at one byte. -/
def join (c : UInt8) : List (List UInt8) → List UInt8
  | [] => []
  | [p] => p
  | p :: ps => p ++ c :: join c ps
/-! Addresses. -/
def b3 (a : Nat) : Nat := a / 16777216
def b2 (a : Nat) : Nat := a / 65536 % 256
def b1 (a : Nat) : Nat := a / 256 % 256
def b0 (a : Nat) : Nat := a % 256
/-- Its text. -/
def printS (a : Nat) : List UInt8 := decDigits (b3 a) ++ (46 :: (decDigits (b2 a) ++ (46 :: (decDigits (b1 a) ++ (46 :: decDigits (b0 a))))))
theorem print_len (a : Nat) (h : a < 4294967296) : (printS a).length ≤ 15 := by
  have h3 := decDigits_len_le 2 (b3 a) (by unfold b3; omega)
  have h2 := decDigits_len_le 2 (b2 a) (by unfold b2; omega)
  have h1 := decDigits_len_le 2 (b1 a) (by unfold b1; omega)
  have h0 := decDigits_len_le 2 (b0 a) (by unfold b0; omega)
  unfold printS; simp; omega

/-! Networks. -/
/-- A network of Bits n and Addr a is valid. -/
def validS (a : Nat) (n : Int) : Bool := decide (0 ≤ n ∧ n ≤ 32) && a % 2 ^ (32 - n.toNat) == 0
theorem validS_mk {a : Nat} {n : Int} : validS a n = true ↔ (0 ≤ n ∧ n ≤ 32) ∧ a % 2 ^ (32 - n.toNat) = 0 := by
  unfold validS; simp
def anyL : List UInt8 := [97, 110, 121]
/-- Its text. -/
def showS (a : Nat) (n : Int) : Option (List UInt8) :=
  if validS a n = true then some (if n = 0 then anyL else printS a ++ (47 :: decDigits n.toNat)) else none
/-- It contains x. -/
def hasS (a : Nat) (n : Int) (x : Nat) : Bool := validS a n && x / 2 ^ (32 - n.toNat) == a / 2 ^ (32 - n.toNat)
def left (l : List UInt8) : List UInt8 := l.takeWhile (· != 47)
def right (l : List UInt8) : List UInt8 := (l.dropWhile (· != 47)).drop 1
/-! Halves. -/
end Go.AdrM
/- Plain mathematics of layer 3, second part: what the library's Split and Cut give, folds over pieces, what the reference's loops give. Nothing of any program. -/
set_option linter.unusedVariables false
set_option linter.unusedSimpArgs false
namespace Go.AdrM
open Go.Lib

end Go.AdrM
/- Plain mathematics of layer 11, second part: numbers out of their digits, up to 2^62. Nothing of any program. -/
set_option linter.unusedVariables false
set_option linter.unusedSimpArgs false
namespace Go.TxtM
open Go.Lib Go.AdrM

end Go.TxtM
