/- Plain mathematics of IPv4 headers: the numbers in their bytes, what is wrong with them, and the bytes of a header that is built. -/
import Derived.Test.YtapcjjhbdhkhhaaDoorSumM
set_option linter.unusedVariables false
namespace Go.Proofs.YtapcjjhbdhkhhaaDoor
open Go.Mtl
namespace IpM
open SumM (add tot byt_out)

/-- Numbers of two and of four bytes. -/
def word (bs : List UInt8) (i : Nat) : Nat := byt bs i * 256 + byt bs (i + 1)
def four (bs : List UInt8) (i : Nat) : Nat := word bs i * 65536 + word bs (i + 2)
theorem word_lt (bs : List UInt8) (i : Nat) : word bs i < 65536 := by have := byt_lt bs i; have := byt_lt bs (i + 1); unfold word; omega
theorem four_lt (bs : List UInt8) (i : Nat) : four bs i < 4294967296 := by have := word_lt bs i; have := word_lt bs (i + 2); unfold four; omega
/-- The header's length, and the total length, as the bytes say them. -/
def hs (bs : List UInt8) : Nat := byt bs 0 % 16 * 4
def tl (bs : List UInt8) : Nat := word bs 2
theorem hs_le (bs : List UInt8) : hs bs ≤ 60 := by unfold hs; omega
theorem tl_lt (bs : List UInt8) : tl bs < 65536 := word_lt _ _
/-- What is wrong with the bytes, from the version on; 0: nothing. -/
def errC (bs : List UInt8) : Nat :=
  if byt bs 0 / 16 ≠ 4 then 5 else if hs bs < 20 then 6 else if bs.length < hs bs ∨ tl bs < hs bs ∨ bs.length < tl bs then 4
  else if add 0 (bs.take (hs bs)) ≠ 65535 then 7 else if word bs 6 % 16384 ≠ 0 then 8 else 0
def errN (bs : List UInt8) : Nat := if 1500 < bs.length then 2 else if bs.length < 20 then 4 else errC bs
/-- What stands behind the header. -/
def body (bs : List UInt8) : List UInt8 := (bs.drop (hs bs)).take (tl bs - hs bs)
theorem errC_le (bs : List UInt8) : errC bs ≤ 8 := by unfold errC; (repeat' split) <;> omega
theorem errN_le (bs : List UInt8) : errN bs ≤ 8 := by unfold errN; have := errC_le bs; (repeat' split) <;> omega
/-- Where nothing is wrong. -/
theorem errC_zero {bs : List UInt8} (h : errC bs = 0) : byt bs 0 / 16 = 4 ∧ 20 ≤ hs bs ∧ hs bs ≤ bs.length ∧ hs bs ≤ tl bs ∧ tl bs ≤ bs.length ∧ add 0 (bs.take (hs bs)) = 65535 ∧ word bs 6 % 16384 = 0 := by
  unfold errC at h
  split at h
  · cases h
  split at h
  · cases h
  split at h
  · cases h
  split at h
  · cases h
  split at h
  · cases h
  refine ⟨?_, ?_, ?_, ?_, ?_, ?_, ?_⟩ <;> first | omega | simp_all
theorem errN_zero {bs : List UInt8} (h : errN bs = 0) : bs.length ≤ 1500 ∧ 20 ≤ bs.length ∧ errC bs = 0 := by
  unfold errN at h
  split at h
  · cases h
  split at h
  · cases h
  exact ⟨by omega, by omega, h⟩
theorem body_len {bs : List UInt8} (h : errC bs = 0) : (body bs).length = tl bs - hs bs := by
  obtain ⟨_, _, h3, h4, h5, _⟩ := errC_zero h
  simp [body]; omega

/-- Numbers as bytes. -/
def twoB (n : Nat) : List UInt8 := [UInt8.ofNat (n / 256), UInt8.ofNat n]
def fourB (n : Nat) : List UInt8 := twoB (n / 65536) ++ twoB (n % 65536)
theorem twoB_len (n : Nat) : (twoB n).length = 2 := rfl
theorem fourB_len (n : Nat) : (fourB n).length = 4 := rfl

end IpM
end Go.Proofs.YtapcjjhbdhkhhaaDoor
