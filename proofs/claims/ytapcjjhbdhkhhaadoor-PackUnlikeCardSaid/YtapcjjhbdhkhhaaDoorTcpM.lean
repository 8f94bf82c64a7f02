/- Plain mathematics of TCP segments: consistent flags, the sum that is checked, what is wrong with the bytes, and the bytes of a segment that is built. -/
import Derived.Test.YtapcjjhbdhkhhaaDoorIpO
set_option linter.unusedVariables false
namespace Go.Proofs.YtapcjjhbdhkhhaaDoor
open Go.Mtl
namespace TcpM
open SumM (add tot norm byt_out lay turn turn_not turn_len add_le)
open IpM (word twoB fourB word_lt twoB_len fourB_len)

/-- Whether flags are consistent. -/
def saneB (f : Nat) : Bool := decide (f % 2 + f / 2 % 2 + f / 4 % 2 < 2) && (f / 2 % 2 == 1 || f / 4 % 2 == 1 || f / 16 % 2 == 1)
theorem sane_bits (f : Nat) (h : f < 256) : saneB f = (f &&& 7 == 2 || f &&& 7 == 4 || f &&& 22 == 16) := by
  have : ∀ f : Fin 256, saneB f.val = (f.val &&& 7 == 2 || f.val &&& 7 == 4 || f.val &&& 22 == 16) := by decide +kernel
  exact this ⟨f, h⟩
theorem sane_low (f : Nat) (h : f < 256) : saneB f = saneB (f % 64) := by
  have : ∀ f : Fin 256, saneB f.val = saneB (f.val % 64) := by decide +kernel
  exact this ⟨f, h⟩

/-- What the checksum covers besides the bytes, its sum, and the sum that is checked. -/
def psB (pr sr ds v : Nat) : List UInt8 := fourB sr ++ fourB ds ++ [0, UInt8.ofNat pr] ++ twoB v
theorem psB_len (pr sr ds v : Nat) : (psB pr sr ds v).length = 12 := rfl
def psN (pr sr ds v : Nat) : Nat := add 0 (psB pr sr ds v)
theorem psN_le (pr sr ds v : Nat) : psN pr sr ds v ≤ 65535 := add_le _ _
def totN (sr ds : Nat) (bs : List UInt8) : Nat := add (psN 6 sr ds bs.length) bs
theorem totN_le (sr ds : Nat) (bs : List UInt8) : totN sr ds bs ≤ 65535 := add_le _ _
theorem totN_app (sr ds : Nat) (bs : List UInt8) : totN sr ds bs = add 0 (psB 6 sr ds bs.length ++ bs) := SumM.add_parts _ _ (by rw [psB_len])

/-- What is wrong with the bytes; 0: nothing. -/
def errT (sr ds : Nat) (bs : List UInt8) : Nat :=
  if bs.length < 20 then 4 else if byt bs 12 / 16 < 5 then 6 else if bs.length < byt bs 12 / 16 * 4 then 4 else if totN sr ds bs ≠ 65535 then 7 else if saneB (byt bs 13) = true then 0 else 11
theorem errT_le (sr ds : Nat) (bs : List UInt8) : errT sr ds bs ≤ 11 := by unfold errT; (repeat' split) <;> omega
theorem errT_len {sr ds : Nat} {bs : List UInt8} (h : errT sr ds bs = 0) : 20 ≤ bs.length := by
  unfold errT at h
  split at h
  · cases h
  · omega

/-- The bytes of a segment without options, with a checksum K; and the checksum that is right. -/
def segB (K fr to fl : Nat) (x : List UInt8) : List UInt8 := (twoB fr ++ twoB to ++ [0, 0, 0, 0, 0, 0, 0, 0, 80, UInt8.ofNat fl, 0, 0] ++ twoB K ++ [0, 0]) ++ x
theorem segB_len (K fr to fl : Nat) (x : List UInt8) : (segB K fr to fl x).length = 20 + x.length := by simp [segB, twoB]; omega
def ckN (sr ds fr to fl : Nat) (x : List UInt8) : Nat := 65535 - totN sr ds (segB 0 fr to fl x)
theorem ckN_le (sr ds fr to fl : Nat) (x : List UInt8) : ckN sr ds fr to fl x ≤ 65535 := by unfold ckN; omega
def seg (sr ds fr to fl : Nat) (x : List UInt8) : List UInt8 := segB (ckN sr ds fr to fl x) fr to fl x
theorem seg_len (sr ds fr to fl : Nat) (x : List UInt8) : (seg sr ds fr to fl x).length = 20 + x.length := segB_len _ _ _ _ _

/-- The program's row, statement by statement. -/
def row1 (n fr to fl : Nat) : List UInt8 := ((over (over (List.replicate (20 + n) 0) 0 (FldM.cutN fr 2)) 2 (FldM.cutN to 2)).set 12 80).set 13 (UInt8.ofNat fl)
theorem row1_is (n fr to fl : Nat) : row1 n fr to fl = segB 0 fr to fl (List.replicate n 0) := by
  unfold row1
  have e : List.replicate (20 + n) (0 : UInt8) = [0, 0, 0, 0, 0, 0, 0, 0, 0, 0, 0, 0, 0, 0, 0, 0, 0, 0, 0, 0] ++ List.replicate n 0 := by
    rw [← List.replicate_append_replicate]; rfl
  rw [IpM.cut_two, IpM.cut_two, e]
  simp [over, twoB, segB]
theorem row2_is (n fr to fl : Nat) (x : List UInt8) (hx : x.length = n) : over (row1 n fr to fl) 20 x = segB 0 fr to fl x := by
  rw [row1_is]
  subst hx
  simp [over, twoB, segB]
  omega
theorem row3_is (K fr to fl : Nat) (x : List UInt8) : over (segB 0 fr to fl x) 16 (FldM.cutN K 2) = segB K fr to fl x := by
  rw [IpM.cut_two]
  simp [over, twoB, segB]

end TcpM
end Go.Proofs.YtapcjjhbdhkhhaaDoor
