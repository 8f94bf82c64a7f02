/- Layer 5: the contract of the reference's Build. -/
import Derived.Test.YtjbdjplliieelaaDoorTcpD
set_option linter.unusedVariables false
set_option linter.unusedSimpArgs false
namespace Go.Proofs.YtjbdjplliieelaaDoor
open Go.ChangeShapes Go.WideShapes Go.ChangeAt Go.RowKit Go.Mtl
namespace Tc
open TcpM (saneB psB psN totN psN_le totN_le errT segB seg ckN row1)
open SumM (add add_le)
open IpM (word word_lt twoB fourB)
open Ip (ret_int MadeO Row But u8_info own_bts own_lit)

/-- A row of the call's own, while another row grows. -/
theorem own_other {w w' : World} {base n : Nat} {v u : Value} {xs : List Value} (h : w.ownsRow base 5 1 v n xs) (hg : w.grownBy w' u.ownBlock) (hne : ∀ k, u.ownBlock = some k → k < base) : w'.ownsRow base 5 1 v n xs := by
  refine h.kept hg ?_
  cases hv : v.ownBlock with
  | none => exact .inl rfl
  | some k =>
    refine .inr fun e => ?_
    have h3 := (h.lt k hv).1
    have h4 := hne k e.symm
    omega

/-- What the reference's Build answers. -/
def RBuilt (W : World) (sr ds fr to fl : Nat) (x : List UInt8) (e : Ending) (w' : World) : Prop :=
  ∃ A c, e = .returned (.tuple #[.slice A (20 + x.length) c, .int .i64 0]) ∧ Bts w' w'.heap.size A (20 + x.length) (seg sr ds fr to fl x) ∧ Below W.heap.size W w'

/-- The bytes in the middle. -/
def midB (f : Nat) : List UInt8 := [0, 0, 0, 0, 0, 0, 0, 0, 80, UInt8.ofNat f, 0, 0]
theorem mid_lit (w : World) (f : Nat) (hf : f < 256) : Bts (w.alloc (.cells #[.int .u8 0, .int .u8 0, .int .u8 0, .int .u8 0, .int .u8 0, .int .u8 0, .int .u8 0, .int .u8 0, .int .u8 80, .int .u8 (f : Int), .int .u8 0, .int .u8 0] 5))
    (w.alloc (.cells #[.int .u8 0, .int .u8 0, .int .u8 0, .int .u8 0, .int .u8 0, .int .u8 0, .int .u8 0, .int .u8 0, .int .u8 80, .int .u8 (f : Int), .int .u8 0, .int .u8 0] 5)).heap.size (some ⟨w.heap.size, 0, none⟩) 12 (midB f) :=
  own_bts (own_lit w (midB f) 12 rfl (by omega) _ (by simp [bvs, midB]; omega))
theorem zero_lit (w : World) : (w.alloc (.cells #[.int .u8 0, .int .u8 0] 5)).ownsRow w.heap.size 5 1 (.slice (some ⟨w.heap.size, 0, none⟩) 2 2) 2 (bvs [0, 0]) :=
  own_lit w [0, 0] 2 rfl (by omega) _ rfl
theorem no_lit (w : World) : (w.alloc (.cells #[] 5)).ownsRow w.heap.size 5 1 (.slice (some ⟨w.heap.size, 0, none⟩) 0 0) 0 (bvs []) :=
  own_lit w [] 0 rfl (by omega) _ rfl

theorem seg0_is (fr to f : Nat) (x : List UInt8) : [] ++ (twoB fr ++ twoB to ++ midB f) ++ [0, 0] ++ ([0, 0] ++ x) = segB 0 fr to f x := by simp [segB, midB, twoB]
theorem segK_is (K fr to f : Nat) (x : List UInt8) : twoB fr ++ twoB to ++ midB f ++ twoB K ++ ([0, 0] ++ x) = segB K fr to f x := by simp [segB, midB]

end Tc
end Go.Proofs.YtjbdjplliieelaaDoor
