/- Plain mathematics of IPv4 headers that are built: their bytes, and what the program's row holds statement by statement. -/
import Derived.Test.YtapcjjhbdhkhhaaDoorIpM
import Derived.Test.YtapcjjhbdhkhhaaDoorFldM
import Derived.Test.YtapcjjhbdhkhhaaDoorComS
set_option linter.unusedVariables false
namespace Go.Proofs.YtapcjjhbdhkhhaaDoor
open Go.Mtl
namespace IpM
open SumM (add tot byt_out)

/-- The first ten bytes of a header that is built, its last eight, its checksum, and the packet. -/
def outB (n id ttl proto : Nat) : List UInt8 := ([69, 0] ++ twoB (20 + n)) ++ twoB id ++ [0, 0, UInt8.ofNat ttl, UInt8.ofNat proto]
def tailB (src dst : Nat) : List UInt8 := fourB src ++ fourB dst
def ckB (n id ttl proto src dst : Nat) : Nat := 65535 - add 0 (outB n id ttl proto ++ tailB src dst)
def hdrB (n id ttl proto src dst : Nat) : List UInt8 := outB n id ttl proto ++ twoB (ckB n id ttl proto src dst) ++ tailB src dst
def packB (id ttl proto src dst : Nat) (x : List UInt8) : List UInt8 := hdrB x.length id ttl proto src dst ++ x
theorem outB_len (n id ttl proto : Nat) : (outB n id ttl proto).length = 10 := rfl
theorem tailB_len (src dst : Nat) : (tailB src dst).length = 8 := rfl
theorem hdrB_len (n id ttl proto src dst : Nat) : (hdrB n id ttl proto src dst).length = 20 := rfl
theorem packB_len (id ttl proto src dst : Nat) (x : List UInt8) : (packB id ttl proto src dst x).length = 20 + x.length := by simp [packB, hdrB_len]
theorem ckB_le (n id ttl proto src dst : Nat) : ckB n id ttl proto src dst ≤ 65535 := by unfold ckB; omega

theorem byte_eq (a b : Nat) (h : a % 256 = b % 256) : UInt8.ofNat a = UInt8.ofNat b := by
  apply UInt8.toNat_inj.1; simp; exact h
theorem cut_two (v : Nat) : FldM.cutN v 2 = twoB v := by
  simp [FldM.cutN, twoB, List.range_succ]
theorem cut_four (v : Nat) : FldM.cutN v 4 = fourB v := by
  simp [FldM.cutN, fourB, twoB, List.range_succ]
  refine ⟨byte_eq _ _ (by omega), byte_eq _ _ (by omega), byte_eq _ _ (by omega)⟩
/-- A word 0 in between does not turn the sum. -/
theorem add_mid (a t : List UInt8) (h : a.length % 2 = 0) : add 0 (a ++ [0, 0] ++ t) = add 0 (a ++ t) := by
  unfold add
  rw [List.append_assoc, List.length_append, List.length_append (as := a) (bs := t), SumM.tot_app _ _ h, SumM.tot_app _ _ h]
  have : tot ([0, 0] ++ t) ([0, 0] ++ t).length = tot t t.length := by
    rw [List.length_append, SumM.tot_app _ _ rfl]
    have : tot [0, 0] [(0 : UInt8), 0].length = 0 := by decide
    omega
  rw [this]
/-- The program's row, statement by statement. -/
def row0 (n ttl proto : Nat) : List UInt8 := (((List.replicate (20 + n) 0).set 0 69).set 8 (UInt8.ofNat ttl)).set 9 (UInt8.ofNat proto)
def row1 (n id ttl proto src dst : Nat) : List UInt8 := over (over (over (over (row0 n ttl proto) 2 (FldM.cutN (20 + n) 2)) 4 (FldM.cutN id 2)) 12 (FldM.cutN src 4)) 16 (FldM.cutN dst 4)
theorem row1_is (n id ttl proto src dst : Nat) : row1 n id ttl proto src dst = (outB n id ttl proto ++ [0, 0] ++ tailB src dst) ++ List.replicate n 0 := by
  unfold row1 row0
  have e : List.replicate (20 + n) (0 : UInt8) = [0, 0, 0, 0, 0, 0, 0, 0, 0, 0, 0, 0, 0, 0, 0, 0, 0, 0, 0, 0] ++ List.replicate n 0 := by
    rw [← List.replicate_append_replicate]; rfl
  rw [cut_two, cut_two, cut_four, cut_four, e]
  unfold outB
  have e2 : ∃ a b, twoB (20 + n) = [a, b] := ⟨_, _, rfl⟩
  generalize twoB (20 + n) = T at *
  obtain ⟨a, b, rfl⟩ := e2
  simp [over, twoB, fourB, tailB]
theorem row1_sum (n id ttl proto src dst : Nat) : 65535 - add 0 ((row1 n id ttl proto src dst).take 20) = ckB n id ttl proto src dst := by
  rw [row1_is, List.take_left' (by rfl), add_mid _ _ (by rw [outB_len])]
  rfl
theorem row2_is (n id ttl proto src dst : Nat) (x : List UInt8) (hx : x.length = n) : over (over (row1 n id ttl proto src dst) 10 (FldM.cutN (ckB n id ttl proto src dst) 2)) 20 x = packB id ttl proto src dst x := by
  rw [row1_is, cut_two]
  subst hx
  unfold packB hdrB
  generalize ckB _ _ _ _ _ _ = c
  unfold outB
  have e2 : ∃ a b, twoB (20 + x.length) = [a, b] := ⟨_, _, rfl⟩
  generalize twoB (20 + x.length) = T at *
  obtain ⟨a, b, rfl⟩ := e2
  simp [over, twoB, fourB, tailB]
  omega

end IpM
end Go.Proofs.YtapcjjhbdhkhhaaDoor
