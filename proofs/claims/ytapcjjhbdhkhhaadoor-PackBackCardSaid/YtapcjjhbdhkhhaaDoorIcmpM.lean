/- Plain mathematics of ICMP messages: what is wrong with the bytes, the bytes of a message that is built, one bit turned. -/
import Derived.Test.YtapcjjhbdhkhhaaDoorIpN
set_option linter.unusedVariables false
set_option linter.unusedSimpArgs false
namespace Go.Proofs.YtapcjjhbdhkhhaaDoor
open Go.Mtl
namespace IcM
open SumM (add tot norm lay turn turn_not turn_len add_le)
open IpM (word twoB word_lt twoB_len byte_eq)

/-- The two kinds. -/
def echoB (k : Nat) : Bool := decide (k = 8) || decide (k = 0)
theorem echo_yes {k : Nat} (h : echoB k = true) : k = 8 ∨ k = 0 := by simpa [echoB] using h
theorem echo_no {k : Nat} (h : echoB k = false) : k ≠ 8 ∧ k ≠ 0 := by simpa [echoB] using h

/-- What is wrong with the bytes; 0: nothing. -/
def errI (bs : List UInt8) : Nat :=
  if bs.length < 8 then 4 else if add 0 bs = 65535 then (if echoB (byt bs 0) = true then (if byt bs 1 = 0 then 0 else 10) else 10) else 7
theorem errI_le (bs : List UInt8) : errI bs ≤ 10 := by unfold errI; (repeat' split) <;> omega
theorem errI_len {bs : List UInt8} (h : errI bs = 0) : 8 ≤ bs.length := by
  unfold errI at h
  split at h
  · cases h
  · omega
/-- Where nothing is wrong. -/
theorem errI_echo {bs : List UInt8} (h : errI bs = 0) : byt bs 0 = 8 ∨ byt bs 0 = 0 := by
  unfold errI at h
  split at h
  · cases h
  split at h
  · split at h
    · exact echo_yes (by assumption)
    · cases h
  · cases h

/-- The bytes of a message with a checksum K; and the checksum that is right. -/
def msgB (K kd id : Nat) (x : List UInt8) : List UInt8 := [UInt8.ofNat kd, 0] ++ twoB K ++ twoB id ++ [0, 0] ++ x
theorem msgB_len (K kd id : Nat) (x : List UInt8) : (msgB K kd id x).length = 8 + x.length := by simp [msgB, twoB]; omega
def ckI (kd id : Nat) (x : List UInt8) : Nat := 65535 - add 0 (msgB 0 kd id x)
theorem ckI_le (kd id : Nat) (x : List UInt8) : ckI kd id x ≤ 65535 := Nat.sub_le _ _
def msg (kd id : Nat) (x : List UInt8) : List UInt8 := msgB (ckI kd id x) kd id x
theorem msg_len (kd id : Nat) (x : List UInt8) : (msg kd id x).length = 8 + x.length := msgB_len _ _ _ _

/-- The program's row, statement by statement. -/
def two (l : List UInt8) (a v : Nat) : List UInt8 := (l.set a (UInt8.ofNat (v / 256))).set (a + 1) (UInt8.ofNat v)
theorem two_len (l : List UInt8) (a v : Nat) : (two l a v).length = l.length := by simp [two]
def row1 (n kd id : Nat) : List UInt8 := two (((List.replicate (8 + n) 0).set 0 (UInt8.ofNat kd)).set 1 0) 4 id
theorem row1_is (n kd id : Nat) : row1 n kd id = msgB 0 kd id (List.replicate n 0) := by
  unfold row1
  have e : List.replicate (8 + n) (0 : UInt8) = [0, 0, 0, 0, 0, 0, 0, 0] ++ List.replicate n 0 := by
    rw [← List.replicate_append_replicate]; rfl
  rw [e]
  simp [two, twoB, msgB]
theorem row2_is (n kd id : Nat) (x : List UInt8) (hx : x.length = n) : over (row1 n kd id) 8 x = msgB 0 kd id x := by
  rw [row1_is]
  subst hx
  simp [over, twoB, msgB]
  omega
theorem row3_is (K kd id : Nat) (x : List UInt8) : two (msgB 0 kd id x) 2 K = msgB K kd id x := by
  simp [two, twoB, msgB]

section
variable (K kd id : Nat) (x : List UInt8)
theorem msg_kind (h : kd < 256) : byt (msgB K kd id x) 0 = kd := by
  have e : byt (msgB K kd id x) 0 = (UInt8.ofNat kd).toNat := rfl
  rw [e]; simp; omega
theorem msg_code : byt (msgB K kd id x) 1 = 0 := rfl
theorem msg_id (h : id < 65536) : word (msgB K kd id x) 4 = id := by
  have e : word (msgB K kd id x) 4 = (UInt8.ofNat (id / 256)).toNat * 256 + (UInt8.ofNat id).toNat := rfl
  rw [e]; simp; omega
/-- The sum is right. -/
theorem msg_sum : add 0 (msg kd id x) = 65535 := by
  have h := SumM.zero_full (msgB 0 kd id x) 2 rfl (by rw [msgB_len]; omega)
  have e0 : lay (msgB 0 kd id x) 2 0 = msgB 0 kd id x := rfl
  rw [e0] at h
  have e : ∀ K, K ≤ 65535 → lay (msgB 0 kd id x) 2 K = msgB K kd id x := by
    intro K hK
    show [UInt8.ofNat kd, 0] ++ [UInt8.ofNat (K / 256), UInt8.ofNat (K % 256)] ++ twoB id ++ [0, 0] ++ x = _
    rw [byte_eq (K % 256) K (by omega)]; rfl
  rw [e _ (Nat.sub_le _ _)] at h
  exact h
/-- A message that was built has nothing wrong; with one bit turned its sum is wrong. -/
theorem msg_err (hk : kd < 256) (h : echoB kd = true) : errI (msg kd id x) = 0 := by
  unfold errI
  rw [msg_sum, if_neg (by rw [msg_len]; omega), if_pos rfl]
  unfold msg
  rw [msg_kind _ _ _ _ hk, if_pos h, if_pos (msg_code _ _ _ _)]
theorem turn_err (j p : Nat) (hj : j < 8 + x.length) (hp : p < 8) : errI (turn (msg kd id x) j p) = 7 := by
  unfold errI
  rw [if_neg (by rw [turn_len, msg_len]; omega), if_neg (turn_not _ _ _ (by rw [msg_len]; exact hj) hp (msg_sum _ _ _))]
end
theorem aw1 : msg 8 1 [] = [8, 0, 247, 254, 0, 1, 0, 0] := by decide +kernel
theorem aw2 : errI [8, 0, 0, 0, 0, 1, 0, 0] = 7 := by decide +kernel

end IcM
end Go.Proofs.YtapcjjhbdhkhhaaDoor
