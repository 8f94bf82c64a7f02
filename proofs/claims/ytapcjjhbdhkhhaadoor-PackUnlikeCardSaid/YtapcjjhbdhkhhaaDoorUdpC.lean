/- Layer 6: the contract of the reference's Parse. -/
import Derived.Test.YtapcjjhbdhkhhaaDoorUdpB
set_option linter.unusedVariables false
set_option linter.unusedSimpArgs false
namespace Go.Proofs.YtapcjjhbdhkhhaaDoor
open Go.ChangeShapes Go.WideShapes Go.ChangeAt Go.RowKit Go.Mtl
namespace Ud
open TcpM (psB psN psN_le)
open UdpM (totU totU_le errU errU_le datB dat ckU fullN two)
open SumM (add add_le)
open IpM (word word_lt twoB fourB)
open Ip (ret_int MadeO Row But u8_info own_bts own_lit)

/-- What the region of the sum keeps. -/
def PAt (W : World) (B : Nat) (A : Option Addr) (n : Nat) (bs : List UInt8) (w : World) : Prop := Bts w B A n bs ∧ Below W.heap.size W w ∧ B ≤ w.heap.size
theorem PAt.go {W w w' : World} {B : Nat} {A : Option Addr} {n : Nat} {bs : List UInt8} (h : PAt W B A n bs w) (hb : Below w.heap.size w w') : PAt W B A n bs w' :=
  ⟨h.1.below (hb.mono h.2.2), h.2.1.trans (hb.mono h.2.1.size), Nat.le_trans h.2.2 hb.size⟩
theorem PAt.drewN {W w : World} {B : Nat} {A : Option Addr} {n : Nat} {bs : List UInt8} (h : PAt W B A n bs w) (k : Nat) : PAt W B A n bs (w.drewN k) :=
  ⟨h.1.drewN k, below_drewN' h.2.1 k, h.2.2⟩
theorem PAt.drew {W w : World} {B : Nat} {A : Option Addr} {n : Nat} {bs : List UInt8} (h : PAt W B A n bs w) : PAt W B A n bs w.drew := ⟨h.1.drew, below_drewN' h.2.1 1, h.2.2⟩
theorem PAt.some {W w w' : World} {B : Nat} {A : Option Addr} {n : Nat} {bs : List UInt8} (h : PAt W B A n bs w) (hw : ∃ k, w' = w.drewN k) : PAt W B A n bs w' := by
  obtain ⟨k, rfl⟩ := hw
  exact h.drewN k

end Ud
end Go.Proofs.YtapcjjhbdhkhhaaDoor
