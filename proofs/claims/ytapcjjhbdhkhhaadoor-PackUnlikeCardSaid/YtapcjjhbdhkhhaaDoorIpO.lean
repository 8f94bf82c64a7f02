/- Plain mathematics of IPv4 headers: what is read in a packet that was built, whatever is behind it; one bit turned; a packet cut off. -/
import Derived.Test.YtapcjjhbdhkhhaaDoorIpN
set_option linter.unusedVariables false
namespace Go.Proofs.YtapcjjhbdhkhhaaDoor
open Go.Mtl
namespace IpM
open SumM (add tot byt_out lay turn turn_not turn_len)

theorem byt_eq (l : List UInt8) (i : Nat) (c : UInt8) (h : l[i]? = some c) : byt l i = c.toNat := by unfold byt; simp [List.getD, h]
theorem hdr_is (n id tt pr sr ds : Nat) : ∃ a b c d k1 k2, hdrB n id tt pr sr ds = [69, 0, a, b, c, d, 0, 0, UInt8.ofNat tt, UInt8.ofNat pr, k1, k2] ++ (fourB sr ++ fourB ds) ∧ a = UInt8.ofNat ((20 + n) / 256) ∧ b = UInt8.ofNat (20 + n) ∧ c = UInt8.ofNat (id / 256) ∧ d = UInt8.ofNat id :=
  ⟨_, _, _, _, _, _, rfl, rfl, rfl, rfl, rfl⟩
theorem hdr_ver (n id tt pr sr ds : Nat) : byt (hdrB n id tt pr sr ds) 0 = 69 := byt_eq _ 0 69 rfl
theorem hdr_sum (n id tt pr sr ds : Nat) : add 0 (hdrB n id tt pr sr ds) = 65535 := by
  have h0 : lay (outB n id tt pr ++ [0, 0] ++ tailB sr ds) 10 0 = outB n id tt pr ++ [0, 0] ++ tailB sr ds := rfl
  have h := SumM.zero_full (outB n id tt pr ++ [0, 0] ++ tailB sr ds) 10 rfl (by simp [outB_len, tailB_len])
  rw [h0, add_mid _ _ (by rw [outB_len])] at h
  have hk : 65535 - add 0 (outB n id tt pr ++ tailB sr ds) = ckB n id tt pr sr ds := rfl
  rw [hk] at h
  unfold hdrB
  generalize ckB n id tt pr sr ds = K at h ⊢
  have e : lay (outB n id tt pr ++ [0, 0] ++ tailB sr ds) 10 K = outB n id tt pr ++ twoB K ++ tailB sr ds := by
    show outB n id tt pr ++ [UInt8.ofNat (K / 256), UInt8.ofNat (K % 256)] ++ tailB sr ds = _
    rw [byte_eq (K % 256) K (by omega)]; rfl
  rw [e] at h
  exact h

section
variable (id tt pr sr ds : Nat) (x y : List UInt8)
theorem pack_front : (packB id tt pr sr ds x ++ y).take 20 = hdrB x.length id tt pr sr ds := by
  unfold packB; rw [List.append_assoc, List.take_left' (hdrB_len _ _ _ _ _ _)]
theorem pack_byt (i : Nat) (h : i < 20) : byt (packB id tt pr sr ds x ++ y) i = byt (hdrB x.length id tt pr sr ds) i := by
  rw [← pack_front id tt pr sr ds x y, byt_take _ _ _ h]
theorem pack_word (i : Nat) (h : i + 1 < 20) : word (packB id tt pr sr ds x ++ y) i = word (hdrB x.length id tt pr sr ds) i := by
  unfold word; rw [pack_byt _ _ _ _ _ _ _ _ (by omega), pack_byt _ _ _ _ _ _ _ _ h]
theorem pack_four (i : Nat) (h : i + 3 < 20) : four (packB id tt pr sr ds x ++ y) i = four (hdrB x.length id tt pr sr ds) i := by
  unfold four; rw [pack_word _ _ _ _ _ _ _ _ (by omega), pack_word _ _ _ _ _ _ _ _ (by omega)]
theorem four_back (v : Nat) (h : v < 4294967296) : (v / 65536 / 256 % 256 * 256 + v / 65536 % 256) * 65536 + (v % 65536 / 256 % 256 * 256 + v % 65536 % 256) = v := by omega
theorem pack_hs : hs (packB id tt pr sr ds x ++ y) = 20 := by
  unfold hs; rw [pack_byt _ _ _ _ _ _ _ _ (by omega), hdr_ver]
theorem pack_tl (h : 20 + x.length < 65536) : tl (packB id tt pr sr ds x ++ y) = 20 + x.length := by
  unfold tl; rw [pack_word _ _ _ _ _ _ _ _ (by omega)]
  show (UInt8.ofNat ((20 + x.length) / 256)).toNat * 256 + (UInt8.ofNat (20 + x.length)).toNat = _
  simp; omega
theorem pack_pr (h : pr < 256) : byt (packB id tt pr sr ds x ++ y) 9 = pr := by
  rw [pack_byt _ _ _ _ _ _ _ _ (by omega)]
  show (UInt8.ofNat pr).toNat = _
  simp; omega
theorem pack_tt (h : tt < 256) : byt (packB id tt pr sr ds x ++ y) 8 = tt := by
  rw [pack_byt _ _ _ _ _ _ _ _ (by omega)]
  show (UInt8.ofNat tt).toNat = _
  simp; omega
theorem pack_id (h : id < 65536) : word (packB id tt pr sr ds x ++ y) 4 = id := by
  rw [pack_word _ _ _ _ _ _ _ _ (by omega)]
  show (UInt8.ofNat (id / 256)).toNat * 256 + (UInt8.ofNat id).toNat = _
  simp; omega
theorem pack_src (h : sr < 4294967296) : four (packB id tt pr sr ds x ++ y) 12 = sr := by
  rw [pack_four _ _ _ _ _ _ _ _ (by omega)]
  show ((UInt8.ofNat (sr / 65536 / 256)).toNat * 256 + (UInt8.ofNat (sr / 65536)).toNat) * 65536 + ((UInt8.ofNat (sr % 65536 / 256)).toNat * 256 + (UInt8.ofNat (sr % 65536)).toNat) = _
  simp; omega
theorem pack_dst (h : ds < 4294967296) : four (packB id tt pr sr ds x ++ y) 16 = ds := by
  rw [pack_four _ _ _ _ _ _ _ _ (by omega)]
  show ((UInt8.ofNat (ds / 65536 / 256)).toNat * 256 + (UInt8.ofNat (ds / 65536)).toNat) * 65536 + ((UInt8.ofNat (ds % 65536 / 256)).toNat * 256 + (UInt8.ofNat (ds % 65536)).toNat) = _
  simp; omega
theorem pack_frag : word (packB id tt pr sr ds x ++ y) 6 = 0 := by
  rw [pack_word _ _ _ _ _ _ _ _ (by omega)]; unfold word; rw [byt_eq _ 6 0 rfl, byt_eq _ (6 + 1) 0 rfl]; rfl
theorem pack_ver : byt (packB id tt pr sr ds x ++ y) 0 = 69 := by
  rw [pack_byt _ _ _ _ _ _ _ _ (by omega), hdr_ver]
theorem pack_body (h : 20 + x.length < 65536) : body (packB id tt pr sr ds x ++ y) = x := by
  unfold body; rw [pack_hs, pack_tl _ _ _ _ _ _ _ h]
  unfold packB
  rw [List.append_assoc, List.drop_left' (hdrB_len _ _ _ _ _ _), show 20 + x.length - 20 = x.length by omega, List.take_left]
/-- A packet that was built has nothing wrong, whatever is behind it. -/
theorem pack_err (h : 20 + x.length + y.length ≤ 1500) : errN (packB id tt pr sr ds x ++ y) = 0 := by
  have hl : (packB id tt pr sr ds x ++ y).length = 20 + x.length + y.length := by rw [List.length_append, packB_len]
  unfold errN
  rw [if_neg (by omega), if_neg (by omega)]
  unfold errC
  rw [pack_ver, pack_hs, pack_tl _ _ _ _ _ _ _ (by omega), pack_front, hdr_sum, pack_frag, if_neg (by omega), if_neg (by omega), if_neg (by omega), if_neg (by omega), if_neg (by omega)]
end

theorem ver_turn (p : Nat) (h1 : 4 ≤ p) (h2 : p < 8) : (69 ^^^ 2 ^ p) % 256 / 16 ≠ 4 := by
  have : p = 4 ∨ p = 5 ∨ p = 6 ∨ p = 7 := by omega
  rcases this with rfl | rfl | rfl | rfl <;> decide
/-- One bit of the header turned, but of how long it is: something is wrong. -/
theorem turn_err (id tt pr sr ds : Nat) (x : List UInt8) (j p : Nat) (hj : j < 20) (hp : p < 8) (h : ¬ (j = 0 ∧ p < 4)) : errN (turn (packB id tt pr sr ds x) j p) ≠ 0 := by
  intro he
  obtain ⟨_, _, he⟩ := errN_zero he
  obtain ⟨h1, _, _, _, _, h6, _⟩ := errC_zero he
  have hv := pack_ver id tt pr sr ds x []
  have hh := pack_hs id tt pr sr ds x []
  have hf := pack_front id tt pr sr ds x []
  rw [List.append_nil] at hv hh hf
  have hl := packB_len id tt pr sr ds x
  by_cases h0 : j = 0
  · subst h0
    have : byt (turn (packB id tt pr sr ds x) 0 p) 0 = (69 ^^^ 2 ^ p) % 256 := by
      unfold turn; rw [byt_set _ _ _ _ (by omega), if_pos rfl, hv, UInt8.toNat_ofNat']
    rw [this] at h1
    exact ver_turn p (by omega) hp h1
  · have hb : byt (turn (packB id tt pr sr ds x) j p) 0 = byt (packB id tt pr sr ds x) 0 := by
      unfold turn; rw [byt_set _ _ _ _ (by omega), if_neg h0]
    have h20 : hs (turn (packB id tt pr sr ds x) j p) = 20 := by unfold hs at hh ⊢; rw [hb]; exact hh
    have ht : (turn (packB id tt pr sr ds x) j p).take 20 = turn (hdrB x.length id tt pr sr ds) j p := by
      rw [← hf]; unfold turn; rw [List.take_set, byt_take _ _ _ hj]
    rw [h20, ht] at h6
    exact turn_not _ j p (by rw [hdrB_len]; omega) hp (hdr_sum _ _ _ _ _ _) h6
/-- A packet that is cut off is short. -/
theorem cut_err (l : List UInt8) (k : Nat) (h : errN l = 0) (hk : k < tl l) : errN (l.take k) = 4 := by
  obtain ⟨p1, p2, he⟩ := errN_zero h
  obtain ⟨h1, h2, h3, h4, h5, _⟩ := errC_zero he
  have hl : (l.take k).length = k := by rw [List.length_take]; omega
  unfold errN
  rw [hl, if_neg (by omega)]
  by_cases h20 : k < 20
  · rw [if_pos h20]
  · rw [if_neg h20]
    unfold errC
    have b0 : byt (l.take k) 0 = byt l 0 := byt_take _ _ _ (by omega)
    have hh : hs (l.take k) = hs l := by unfold hs; rw [b0]
    have ht : tl (l.take k) = tl l := by unfold tl word; rw [byt_take _ _ _ (by omega), byt_take _ _ _ (by omega)]
    rw [b0, hh, ht, hl, if_neg (by omega), if_neg (by omega), if_pos (by omega)]

end IpM
end Go.Proofs.YtapcjjhbdhkhhaaDoor
