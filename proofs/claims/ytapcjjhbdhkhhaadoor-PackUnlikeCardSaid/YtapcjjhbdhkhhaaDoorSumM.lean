/- Plain mathematics of sums with carry: the words of bytes, their total, and what is left of it. -/
import Derived.Test.YtapcjjhbdhkhhaaDoorCom
set_option linter.unusedVariables false
namespace Go.Proofs.YtapcjjhbdhkhhaaDoor
open Go.Mtl
namespace SumM

/-- What the byte c at place i is worth. -/
def part (i c : Nat) : Nat := if i % 2 = 0 then c * 256 else c
theorem part_even {i : Nat} (c : Nat) (h : i % 2 = 0) : part i c = c * 256 := by unfold part; rw [if_pos h]
theorem part_odd {i : Nat} (c : Nat) (h : i % 2 = 1) : part i c = c := by unfold part; rw [if_neg (by omega)]
theorem part_le (i c : Nat) (h : c < 256) : part i c ≤ 65280 := by unfold part; split <;> omega
theorem part_zero (i : Nat) : part i 0 = 0 := by unfold part; split <;> rfl

/-- The total of the first k bytes. -/
def tot (bs : List UInt8) : Nat → Nat
  | 0 => 0
  | k + 1 => tot bs k + part k (byt bs k)
theorem tot_zero (bs : List UInt8) : tot bs 0 = 0 := rfl
theorem tot_step (bs : List UInt8) (k : Nat) : tot bs (k + 1) = tot bs k + part k (byt bs k) := rfl
theorem tot_word (bs : List UInt8) (k : Nat) (h : k % 2 = 0) : tot bs (k + 2) = tot bs k + (byt bs k * 256 + byt bs (k + 1)) := by
  rw [tot_step, tot_step, part_even _ h, part_odd _ (by omega)]; omega
theorem byt_out (bs : List UInt8) (k : Nat) (h : bs.length ≤ k) : byt bs k = 0 := by
  unfold byt
  simp [List.getD, List.getElem?_eq_none h]
theorem tot_out (bs : List UInt8) (k : Nat) (h : bs.length ≤ k) : tot bs k = tot bs bs.length := by
  induction k with
  | zero => rw [Nat.le_zero.1 h]
  | succ k ih =>
    by_cases e : bs.length ≤ k
    · rw [tot_step, byt_out bs k e, part_zero, Nat.add_zero, ih e]
    · rw [show bs.length = k + 1 by omega]
theorem tot_congr (a b : List UInt8) (k : Nat) (h : ∀ j, j < k → byt a j = byt b j) : tot a k = tot b k := by
  induction k with
  | zero => rfl
  | succ k ih => rw [tot_step, tot_step, ih fun j hj => h j (by omega), h k (by omega)]
/-- One byte turned. -/
theorem tot_set (bs : List UInt8) (j : Nat) (c : UInt8) (hj : j < bs.length) : ∀ k, tot (bs.set j c) k + (if j < k then part j (byt bs j) else 0) = tot bs k + (if j < k then part j c.toNat else 0)
  | 0 => by simp [tot_zero]
  | k + 1 => by
    have ih := tot_set bs j c hj k
    rw [tot_step, tot_step, byt_set _ _ _ _ hj]
    by_cases e : j = k
    · subst e
      simp only [Nat.lt_irrefl, if_false, Nat.add_zero, if_true, Nat.lt_succ_self] at ih ⊢
      omega
    · rw [if_neg e]
      by_cases l : j < k
      · rw [if_pos l, if_pos l] at ih; rw [if_pos (by omega), if_pos (by omega)]; omega
      · rw [if_neg l, if_neg l] at ih; rw [if_neg (by omega), if_neg (by omega)]; omega
theorem byt_app_left (a b : List UInt8) (k : Nat) (h : k < a.length) : byt (a ++ b) k = byt a k := by
  unfold byt; simp [List.getD, List.getElem?_append_left h]
theorem byt_app_right (a b : List UInt8) (k : Nat) : byt (a ++ b) (a.length + k) = byt b k := by
  unfold byt; simp [List.getD, List.getElem?_append_right (Nat.le_add_right a.length k)]
/-- Behind an even number of bytes. -/
theorem tot_app (a b : List UInt8) (h : a.length % 2 = 0) (k : Nat) : tot (a ++ b) (a.length + k) = tot a a.length + tot b k := by
  induction k with
  | zero => exact tot_congr _ _ _ fun j hj => byt_app_left a b j hj
  | succ k ih =>
    rw [show a.length + (k + 1) = (a.length + k) + 1 by omega, tot_step, tot_step, ih, byt_app_right]
    have : part (a.length + k) (byt b k) = part k (byt b k) := by unfold part; rw [show (a.length + k) % 2 = k % 2 by omega]
    omega

/-- What is left of a total when 65535 is taken away as often as more than 65535 stands there. -/
def norm (n : Nat) : Nat := if n = 0 then 0 else (n - 1) % 65535 + 1
theorem norm_le (n : Nat) : norm n ≤ 65535 := by unfold norm; split <;> omega
theorem norm_small (n : Nat) (h : n ≤ 65535) : norm n = n := by unfold norm; split <;> omega
theorem norm_big (n : Nat) (h : 65535 < n) (h2 : n ≤ 131070) : norm n = n - 65535 := by unfold norm; split <;> omega
theorem norm_add (a b : Nat) : norm (norm a + b) = norm (a + b) := by unfold norm; split <;> split <;> split <;> omega
theorem norm_mod (n : Nat) : norm n % 65535 = n % 65535 := by unfold norm; split <;> omega
theorem norm_full (n : Nat) : norm n = 65535 ↔ 0 < n ∧ n % 65535 = 0 := by unfold norm; split <;> omega
theorem norm_eq (a b : Nat) (h : a % 65535 = b % 65535) (h0 : a = 0 ↔ b = 0) : norm a = norm b := by unfold norm; split <;> split <;> omega

/-- The sum with carry of a start and of bytes. -/
def add (s : Nat) (bs : List UInt8) : Nat := norm (s + tot bs bs.length)
theorem add_le (s : Nat) (bs : List UInt8) : add s bs ≤ 65535 := norm_le _
/-- After k bytes. -/
def upto (s : Nat) (bs : List UInt8) (k : Nat) : Nat := norm (s + tot bs k)
theorem upto_zero (s : Nat) (bs : List UInt8) (h : s ≤ 65535) : upto s bs 0 = s := norm_small _ (by rw [tot_zero]; omega)
theorem upto_le (s : Nat) (bs : List UInt8) (k : Nat) : upto s bs k ≤ 65535 := norm_le _
theorem upto_step (s : Nat) (bs : List UInt8) (k : Nat) : norm (upto s bs k + part k (byt bs k)) = upto s bs (k + 1) := by
  unfold upto; rw [norm_add, tot_step, Nat.add_assoc]
theorem upto_word (s : Nat) (bs : List UInt8) (k : Nat) (h : k % 2 = 0) : norm (upto s bs k + (byt bs k * 256 + byt bs (k + 1))) = upto s bs (k + 2) := by
  unfold upto; rw [norm_add, tot_word _ _ h, Nat.add_assoc]
theorem upto_last (s : Nat) (bs : List UInt8) (k : Nat) (h : k % 2 = 0) (hl : bs.length ≤ k + 1) : norm (upto s bs k + byt bs k * 256) = upto s bs (k + 2) := by
  have := upto_word s bs k h
  rwa [byt_out bs (k + 1) hl, Nat.add_zero] at this
theorem upto_done (s : Nat) (bs : List UInt8) (k : Nat) (h : bs.length ≤ k) : upto s bs k = add s bs := by
  unfold upto add; rw [tot_out bs k h]

/-- One word laid anew. -/
theorem tot_pair (bs : List UInt8) (k : Nat) (u v : UInt8) (h : k % 2 = 0) (hk : k + 1 < bs.length) :
    tot ((bs.set k u).set (k + 1) v) bs.length + (byt bs k * 256 + byt bs (k + 1)) = tot bs bs.length + (u.toNat * 256 + v.toNat) := by
  have h1 := tot_set bs k u (by omega) bs.length
  have h2 := tot_set (bs.set k u) (k + 1) v (by simp; omega) bs.length
  rw [if_pos (by omega), if_pos (by omega), part_even _ h, part_even _ h] at h1
  rw [if_pos (by omega), if_pos (by omega), part_odd _ (by omega), part_odd _ (by omega), byt_set _ _ _ _ (by omega), if_neg (by omega)] at h2
  omega
theorem byt_pair0 (bs : List UInt8) (k : Nat) (u v : UInt8) (hk : k + 1 < bs.length) : byt ((bs.set k u).set (k + 1) v) k = u.toNat := by
  rw [byt_set _ _ _ _ (by simp; omega), if_neg (by omega), byt_set _ _ _ _ (by omega), if_pos rfl]
theorem byt_pair1 (bs : List UInt8) (k : Nat) (u v : UInt8) (hk : k + 1 < bs.length) : byt ((bs.set k u).set (k + 1) v) (k + 1) = v.toNat := by
  rw [byt_set _ _ _ _ (by simp; omega), if_pos rfl]

/-- The word c laid at k, as two bytes. -/
def lay (bs : List UInt8) (k c : Nat) : List UInt8 := (bs.set k (UInt8.ofNat (c / 256))).set (k + 1) (UInt8.ofNat (c % 256))
theorem lay_len (bs : List UInt8) (k c : Nat) : (lay bs k c).length = bs.length := by simp [lay]
theorem tot_lay (bs : List UInt8) (k c : Nat) (h : k % 2 = 0) (hk : k + 1 < bs.length) (hc : c ≤ 65535) :
    tot (lay bs k c) bs.length + (byt bs k * 256 + byt bs (k + 1)) = tot bs bs.length + c := by
  have := tot_pair bs k (UInt8.ofNat (c / 256)) (UInt8.ofNat (c % 256)) h hk
  rw [UInt8.toNat_ofNat', UInt8.toNat_ofNat'] at this
  unfold lay
  omega
theorem byt_lay0 (bs : List UInt8) (k c : Nat) (hk : k + 1 < bs.length) (hc : c ≤ 65535) : byt (lay bs k c) k = c / 256 := by
  unfold lay; rw [byt_pair0 _ _ _ _ hk, UInt8.toNat_ofNat']; omega
theorem byt_lay1 (bs : List UInt8) (k c : Nat) (hk : k + 1 < bs.length) : byt (lay bs k c) (k + 1) = c % 256 := by
  unfold lay; rw [byt_pair1 _ _ _ _ hk, UInt8.toNat_ofNat']; omega
/-- With the checksum in the place of a word 0 the sum is 65535. -/
theorem zero_full (bs : List UInt8) (k : Nat) (h : k % 2 = 0) (hk : k + 1 < bs.length) : add 0 (lay (lay bs k 0) k (65535 - add 0 (lay bs k 0))) = 65535 := by
  have hl := lay_len bs k 0
  have h1 := tot_lay (lay bs k 0) k (65535 - add 0 (lay bs k 0)) h (by omega) (by omega)
  rw [byt_lay0 _ _ _ hk (by omega), byt_lay1 _ _ _ hk] at h1
  unfold add at h1 ⊢
  simp only [lay_len] at h1 ⊢
  rw [norm_full]
  have h2 := norm_mod (0 + tot (lay bs k 0) bs.length)
  have h3 := norm_le (0 + tot (lay bs k 0) bs.length)
  have h4 : tot (lay bs k 0) bs.length = 0 → norm (0 + tot (lay bs k 0) bs.length) = 0 := by unfold norm; split <;> omega
  omega
theorem two_pow_lt8 (b : Nat) (h : b < 8) : 2 ^ b = 1 ∨ 2 ^ b = 2 ∨ 2 ^ b = 4 ∨ 2 ^ b = 8 ∨ 2 ^ b = 16 ∨ 2 ^ b = 32 ∨ 2 ^ b = 64 ∨ 2 ^ b = 128 := by
  have : b = 0 ∨ b = 1 ∨ b = 2 ∨ b = 3 ∨ b = 4 ∨ b = 5 ∨ b = 6 ∨ b = 7 := by omega
  rcases this with rfl | rfl | rfl | rfl | rfl | rfl | rfl | rfl <;> simp
theorem xor_step : ∀ c : Fin 256, ∀ b : Fin 8, c.val ^^^ 2 ^ b.val = c.val + 2 ^ b.val ∨ (c.val ^^^ 2 ^ b.val) + 2 ^ b.val = c.val := by decide +kernel
/-- A byte with one bit turned. -/
def turn (bs : List UInt8) (j b : Nat) : List UInt8 := bs.set j (UInt8.ofNat (byt bs j ^^^ 2 ^ b))
theorem turn_len (bs : List UInt8) (j b : Nat) : (turn bs j b).length = bs.length := by simp [turn]
theorem xor_lt (c b : Nat) (hc : c < 256) (hb : b < 8) : c ^^^ 2 ^ b < 256 := Nat.xor_lt_two_pow (n := 8) hc (Nat.pow_lt_pow_right (by decide) hb)
theorem turn_not (bs : List UInt8) (j b : Nat) (hj : j < bs.length) (hb : b < 8) (hs : add 0 bs = 65535) : add 0 (turn bs j b) ≠ 65535 := by
  intro ht
  unfold add at hs ht
  rw [turn_len] at ht
  rw [norm_full] at hs ht
  have h1 := tot_set bs j (UInt8.ofNat (byt bs j ^^^ 2 ^ b)) hj bs.length
  rw [if_pos hj, if_pos hj, UInt8.toNat_ofNat'] at h1
  have hx := xor_lt (byt bs j) b (byt_lt bs j) hb
  rw [Nat.mod_eq_of_lt (by omega)] at h1
  unfold turn at ht
  have h2 := xor_step ⟨byt bs j, byt_lt bs j⟩ ⟨b, hb⟩
  have h3 := two_pow_lt8 b hb
  simp only at h2
  unfold part at h1
  split at h1 <;> omega

theorem add_parts (a b : List UInt8) (h : a.length % 2 = 0) : add (add 0 a) b = add 0 (a ++ b) := by
  unfold add
  rw [norm_add, List.length_append, tot_app _ _ h, Nat.add_assoc]
theorem add_swap (a b : List UInt8) : add (add 0 b) a = add (add 0 a) b := by
  unfold add
  rw [norm_add, norm_add]
  congr 1; omega
/-- A checksum that was edited. -/
theorem edit_fits (bs : List UInt8) (k c : Nat) (h : k % 2 = 0) (hk : k + 1 < bs.length) (hc : c ≤ 65535) :
    norm (norm ((65535 - (65535 - add 0 bs)) + (65535 - (byt bs k * 256 + byt bs (k + 1)))) + c) % 65535 = add 0 (lay bs k c) % 65535 := by
  have h1 := tot_lay bs k c h hk hc
  have h2 := byt_lt bs k
  have h3 := byt_lt bs (k + 1)
  have h4 := add_le 0 bs
  unfold add at h4 ⊢
  rw [norm_add, norm_mod, norm_mod, lay_len]
  have h5 := norm_mod (0 + tot bs bs.length)
  omega

end SumM
end Go.Proofs.YtapcjjhbdhkhhaaDoor
