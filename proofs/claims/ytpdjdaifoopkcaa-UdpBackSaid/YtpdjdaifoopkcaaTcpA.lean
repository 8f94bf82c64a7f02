/- Layer 5: the table of flags (Env), and the contracts of tcp.Sane and of the reference's. -/
import Derived.Test.YtpdjdaifoopkcaaTcpM
import Derived.Test.YtpdjdaifoopkcaaIpA
import Derived.FnData
set_option linter.unusedVariables false
namespace Go.Proofs.Ytpdjdaifoopkcaa
open Go.ChangeShapes Go.WideShapes Go.ChangeAt Go.RowKit Go.Mtl
namespace Tc
open TcpM (saneB)
open Ip (ret_int)

theorem and_u8 (x y : Nat) (hx : x < 256) (hy : y < 256) : bits .and .u8 (x : Int) (y : Int) = ((x &&& y : Nat) : Int) := by
  have h : ∀ a : Fin 256, ∀ b : Fin 256, bits .and .u8 (a.val : Int) (b.val : Int) = ((a.val &&& b.val : Nat) : Int) := by
    intro a b
    show IntKind.u8.wrap ((BitVec.ofInt 8 (a.val : Int) &&& BitVec.ofInt 8 (b.val : Int)).toNat : Int) = _
    rw [BitVec.ofInt_natCast, BitVec.ofInt_natCast, BitVec.toNat_and, BitVec.toNat_ofNat, BitVec.toNat_ofNat, Nat.mod_eq_of_lt (by omega), Nat.mod_eq_of_lt (by omega)]
    have : a.val &&& b.val ≤ a.val := Nat.and_le_left
    simp [IntKind.wrap, IntKind.bits, IntKind.signed]
    omega
  exact h ⟨x, hx⟩ ⟨y, hy⟩

/-- Before round k of Sane: none of the patterns so far fits. -/
def SaneAt (a c : Nat) (k : Nat) : Prop := (0 < k → a ≠ 2) ∧ (1 < k → a ≠ 4) ∧ (2 < k → c ≠ 16)
end Tc
end Go.Proofs.Ytpdjdaifoopkcaa
