/- Plain mathematics of UDP datagrams: the sum that is checked, what is wrong with the bytes, the bytes of a datagram that is built, what is read in it, one bit turned. -/
import Derived.Test.YtapcjjhbdhkhhaaDoorTcpN
set_option linter.unusedVariables false
set_option linter.unusedSimpArgs false
namespace Go.Proofs.YtapcjjhbdhkhhaaDoor
open Go.Mtl
namespace UdpM
open SumM (add tot norm byt_out lay turn turn_not turn_len add_le byt_app_left)
open IpM (word twoB fourB word_lt twoB_len fourB_len byt_eq byte_eq)
open TcpM (psB psN psB_len psN_le)

/-- The sum that is checked. -/
def totU (sr ds : Nat) (bs : List UInt8) : Nat := add (psN 17 sr ds bs.length) bs
theorem totU_le (sr ds : Nat) (bs : List UInt8) : totU sr ds bs ≤ 65535 := add_le _ _
theorem totU_app (sr ds : Nat) (bs : List UInt8) : totU sr ds bs = add 0 (psB 17 sr ds bs.length ++ bs) := SumM.add_parts _ _ (by rw [psB_len])

/-- What is wrong with the bytes; 0: nothing. -/
def errU (sr ds : Nat) (bs : List UInt8) : Nat :=
  if bs.length < 8 then 4 else if word bs 4 < 8 then 6 else if bs.length < word bs 4 then 4
  else if word bs 6 = 0 then 0 else if totU sr ds (bs.take (word bs 4)) = 65535 then 0 else 7
theorem errU_le (sr ds : Nat) (bs : List UInt8) : errU sr ds bs ≤ 7 := by unfold errU; (repeat' split) <;> omega
theorem errU_len {sr ds : Nat} {bs : List UInt8} (h : errU sr ds bs = 0) : 8 ≤ bs.length := by
  unfold errU at h
  split at h
  · cases h
  · omega

/-- The bytes of a datagram with a checksum K; and the checksum that is right. -/
def datB (K fr to : Nat) (x : List UInt8) : List UInt8 := twoB fr ++ twoB to ++ twoB (8 + x.length) ++ twoB K ++ x
theorem datB_len (K fr to : Nat) (x : List UInt8) : (datB K fr to x).length = 8 + x.length := by simp [datB, twoB]; omega
def fullN (t : Nat) : Nat := if 65535 - t = 0 then 65535 else 65535 - t
theorem fullN_le (t : Nat) : fullN t ≤ 65535 := by unfold fullN; split <;> omega
theorem fullN_pos (t : Nat) : 0 < fullN t := by unfold fullN; split <;> omega
def ckU (sr ds fr to : Nat) (x : List UInt8) : Nat := fullN (totU sr ds (datB 0 fr to x))
theorem ckU_le (sr ds fr to : Nat) (x : List UInt8) : ckU sr ds fr to x ≤ 65535 := fullN_le _
theorem ckU_pos (sr ds fr to : Nat) (x : List UInt8) : 0 < ckU sr ds fr to x := fullN_pos _
def dat (sr ds fr to : Nat) (x : List UInt8) : List UInt8 := datB (ckU sr ds fr to x) fr to x
theorem dat_len (sr ds fr to : Nat) (x : List UInt8) : (dat sr ds fr to x).length = 8 + x.length := datB_len _ _ _ _

/-- The program's row, statement by statement. -/
def two (l : List UInt8) (a v : Nat) : List UInt8 := (l.set a (UInt8.ofNat (v / 256))).set (a + 1) (UInt8.ofNat v)
theorem two_len (l : List UInt8) (a v : Nat) : (two l a v).length = l.length := by simp [two]
def row1 (n fr to : Nat) : List UInt8 := two (two (two (List.replicate (8 + n) 0) 0 fr) 2 to) 4 (8 + n)
theorem row1_is (n fr to : Nat) : row1 n fr to = datB 0 fr to (List.replicate n 0) := by
  unfold row1
  have e : List.replicate (8 + n) (0 : UInt8) = [0, 0, 0, 0, 0, 0, 0, 0] ++ List.replicate n 0 := by
    rw [← List.replicate_append_replicate]; rfl
  rw [e]
  simp [two, twoB, datB]
theorem row2_is (n fr to : Nat) (x : List UInt8) (hx : x.length = n) : over (row1 n fr to) 8 x = datB 0 fr to x := by
  rw [row1_is]
  subst hx
  simp [over, twoB, datB]
  omega
theorem row3_is (K fr to : Nat) (x : List UInt8) : two (datB 0 fr to x) 6 K = datB K fr to x := by
  simp [two, twoB, datB]

section
variable (K sr ds fr to : Nat) (x y : List UInt8)
theorem word_two (a b : UInt8) (v : Nat) (hv : v < 65536) (ha : a = UInt8.ofNat (v / 256)) (hb : b = UInt8.ofNat v) : a.toNat * 256 + b.toNat = v := by
  subst ha; subst hb; simp; omega
theorem dat_from (h : fr < 65536) : word (datB K fr to x) 0 = fr := word_two _ _ fr h rfl rfl
theorem dat_to (h : to < 65536) : word (datB K fr to x) 2 = to := word_two _ _ to h rfl rfl
theorem dat_size (h : 8 + x.length < 65536) : word (datB K fr to x) 4 = 8 + x.length := word_two _ _ _ h rfl rfl
theorem dat_ck (h : K < 65536) : word (datB K fr to x) 6 = K := word_two _ _ K h rfl rfl
theorem word_left (a b : List UInt8) (i : Nat) (h : i + 1 < a.length) : word (a ++ b) i = word a i := by
  unfold word; rw [byt_app_left _ _ _ (by omega), byt_app_left _ _ _ h]
/-- The sum that is checked is right. -/
theorem dat_sum : totU sr ds (dat sr ds fr to x) = 65535 := by
  have h1 : totU sr ds (datB 0 fr to x) = add 0 (psB 17 sr ds (8 + x.length) ++ datB 0 fr to x) := by rw [totU_app, datB_len]
  unfold dat
  rw [totU_app, datB_len]
  have hk : ckU sr ds fr to x = fullN (totU sr ds (datB 0 fr to x)) := rfl
  have hl := ckU_le sr ds fr to x
  have ht := totU_le sr ds (datB 0 fr to x)
  generalize ckU sr ds fr to x = K at hk hl ⊢
  generalize totU sr ds (datB 0 fr to x) = t at h1 hk ht
  have e : lay (psB 17 sr ds (8 + x.length) ++ datB 0 fr to x) 18 K = psB 17 sr ds (8 + x.length) ++ datB K fr to x := by
    show psB 17 sr ds (8 + x.length) ++ (twoB fr ++ twoB to ++ twoB (8 + x.length) ++ [UInt8.ofNat (K / 256), UInt8.ofNat (K % 256)] ++ x) = _
    rw [byte_eq (K % 256) K (by omega)]; rfl
  have hlen : (psB 17 sr ds (8 + x.length) ++ datB 0 fr to x).length = 20 + x.length := by rw [List.length_append, psB_len, datB_len]; omega
  have h2 := SumM.tot_lay (psB 17 sr ds (8 + x.length) ++ datB 0 fr to x) 18 K rfl (by omega) hl
  have z0 : byt (psB 17 sr ds (8 + x.length) ++ datB 0 fr to x) 18 = 0 := byt_eq _ 18 0 rfl
  have z1 : byt (psB 17 sr ds (8 + x.length) ++ datB 0 fr to x) 19 = 0 := byt_eq _ 19 0 rfl
  rw [z0, z1, e] at h2
  have hlen2 : (psB 17 sr ds (8 + x.length) ++ datB K fr to x).length = 20 + x.length := by rw [List.length_append, psB_len, datB_len]; omega
  unfold add at h1 ⊢
  rw [hlen] at h1 h2
  rw [hlen2]
  generalize tot (psB 17 sr ds (8 + x.length) ++ datB K fr to x) (20 + x.length) = T1 at h2 ⊢
  generalize tot (psB 17 sr ds (8 + x.length) ++ datB 0 fr to x) (20 + x.length) = T0 at h1 h2
  have e2 : norm (0 + T1) = norm (t + K) := by
    rw [h1, SumM.norm_add]; exact congrArg norm (by omega)
  rw [e2, hk]
  unfold fullN
  by_cases hz : 65535 - t = 0
  · rw [if_pos hz]
    have : t = 65535 := by omega
    subst this
    rfl
  · rw [if_neg hz, show t + (65535 - t) = 65535 by omega]; rfl
/-- A datagram that was built has nothing wrong, whatever is behind it. -/
theorem dat_err (hn : 8 + x.length < 65536) : errU sr ds (dat sr ds fr to x ++ y) = 0 := by
  have hl := dat_len sr ds fr to x
  have hs : word (dat sr ds fr to x ++ y) 4 = 8 + x.length := by rw [word_left _ _ _ (by omega)]; exact dat_size _ _ _ _ hn
  unfold errU
  rw [hs, List.length_append, hl, if_neg (by omega), if_neg (by omega), if_neg (by omega), ← hl, List.take_left' rfl, dat_sum, if_pos rfl]
  split <;> rfl
/-- Without a checksum. -/
theorem plain_err (hn : 8 + x.length < 65536) : errU sr ds (datB 0 fr to x) = 0 := by
  unfold errU
  rw [dat_size _ _ _ _ hn, datB_len, if_neg (by omega), if_neg (by omega), if_neg (by omega), if_pos (dat_ck 0 _ _ _ (by omega))]
theorem small_err (l : List UInt8) (hl : 8 ≤ l.length) : errU sr ds ((l.set 4 0).set 5 7) = 6 := by
  have h : word ((l.set 4 0).set 5 7) 4 = 7 := by
    unfold word
    have h5 : 5 < (l.set 4 0).length := by simp; omega
    have h4 : 4 < l.length := by omega
    simp [byt_set _ _ _ _ h5, byt_set _ _ _ _ h4]
  unfold errU
  rw [h, List.length_set, List.length_set, if_neg (by omega), if_pos (by omega)]
end

theorem word_turn (bs : List UInt8) (j p i : Nat) (hj : j < bs.length) (h0 : j ≠ i) (h1 : j ≠ i + 1) : word (turn bs j p) i = word bs i := by
  unfold word turn
  rw [byt_set _ _ _ _ hj, byt_set _ _ _ _ hj, if_neg h0, if_neg h1]
theorem turn_sum (sr ds : Nat) (bs : List UInt8) (j p : Nat) (hj : j < bs.length) (hp : p < 8) (h : totU sr ds bs = 65535) : totU sr ds (turn bs j p) ≠ 65535 := by
  rw [totU_app, turn_len]
  rw [totU_app] at h
  have e : psB 17 sr ds bs.length ++ turn bs j p = turn (psB 17 sr ds bs.length ++ bs) (12 + j) p := by
    unfold turn
    have hb : byt (psB 17 sr ds bs.length ++ bs) (12 + j) = byt bs j := SumM.byt_app_right (psB 17 sr ds bs.length) bs j
    rw [hb, List.set_append_right _ _ (by rw [psB_len]; omega), psB_len, Nat.add_sub_cancel_left]
  rw [e]
  exact turn_not _ _ p (by rw [List.length_append, psB_len]; omega) hp h
/-- One bit of the ports, or of the content, turned: the sum is wrong. -/
theorem turn_err (sr ds fr to : Nat) (x : List UInt8) (j p : Nat) (hn : 8 + x.length < 65536) (hj : j < 8 + x.length) (hp : p < 8) (h : j < 4 ∨ 8 ≤ j) : errU sr ds (turn (dat sr ds fr to x) j p) = 7 := by
  have hl := dat_len sr ds fr to x
  have hs : word (turn (dat sr ds fr to x) j p) 4 = 8 + x.length := by rw [word_turn _ _ _ _ (by omega) (by omega) (by omega)]; exact dat_size _ _ _ _ hn
  have hc : word (turn (dat sr ds fr to x) j p) 6 = ckU sr ds fr to x := by
    rw [word_turn _ _ _ _ (by omega) (by omega) (by omega)]; exact dat_ck _ _ _ _ (by have := ckU_le sr ds fr to x; omega)
  have hne := turn_sum sr ds (dat sr ds fr to x) j p (by omega) hp (dat_sum _ _ _ _ _)
  have hpos := ckU_pos sr ds fr to x
  unfold errU
  rw [hs, hc, turn_len, hl, if_neg (by omega), if_neg (by omega), if_neg (by omega), if_neg (by omega), List.take_of_length_le (by rw [turn_len, hl]; omega), if_neg hne]

theorem aw1 : errU 1 2 (dat 1 2 53 54 [7] ++ [9]) = 0 := by decide +kernel
theorem aw2 : errU 1 3 (dat 1 2 53 54 [7]) = 7 := by decide +kernel
theorem aw3 : errU 1 3 [0, 1, 0, 2, 0, 8, 0, 0] = 0 := by decide +kernel
theorem aw4 : word (dat 1 2 53 54 [7] ++ [9]) 0 = 53 ∧ word (dat 1 2 53 54 [7] ++ [9]) 2 = 54 := by decide +kernel

end UdpM
end Go.Proofs.YtapcjjhbdhkhhaaDoor
