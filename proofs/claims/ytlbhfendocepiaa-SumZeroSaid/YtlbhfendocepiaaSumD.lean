/- The walk of SumZero. -/
import Derived.Test.YtlbhfendocepiaaSumB
set_option linter.unusedVariables false
namespace Go.Proofs.Ytlbhfendocepiaa
open Go.ChangeShapes Go.WideShapes Go.ChangeAt Go.RowKit Go.Mtl
namespace Sm
open SumM (norm add upto norm_big norm_small add_le upto_zero upto_le upto_step upto_word upto_last upto_done norm_le lay lay_len turn turn_len zero_full turn_not two_pow_lt8)

theorem u8_info : (Try.prog.info? 5).map (fun i => (i.zero, i.size, i.bytes)) = some (some (.int .u8 0), 1, 1) := by kernel_rfl
theorem u8_wrap (n : Int) : IntKind.u8.wrap n = n % 256 := by simp [IntKind.wrap, IntKind.bits, IntKind.signed]

/-- A row of the call's own at block g. -/
abbrev OwnAt (w : World) (base g n cap : Nat) (bs : List UInt8) : Prop := w.ownsRow base 5 1 (.slice (some ⟨g, 0, none⟩) n cap) n (bvs bs)
theorem own_lay {w : World} {base g n cap : Nat} {bs : List UInt8} (h : OwnAt w base g n cap bs) (k c : Nat) (hc : c ≤ 65535) (x y : Int) (hx : x = (c : Int) / 256) (hy : y = (c : Int) % 256) :
    OwnAt ((w.setCell ⟨g, k, none⟩ (.int .u8 x)).setCell ⟨g, k + 1, none⟩ (.int .u8 y)) base g n cap (lay bs k c) :=
  own_set (own_set h k (UInt8.ofNat (c / 256)) x (by rw [UInt8.toNat_ofNat']; omega)) (k + 1) (UInt8.ofNat (c % 256)) y (by rw [UInt8.toNat_ofNat']; omega)
theorem own_len {w : World} {base g n cap : Nat} {bs : List UInt8} (h : OwnAt w base g n cap bs) : bs.length = n := by have := h.1; rw [bvs_len] at this; omega
theorem own_bts {w : World} {base g n cap : Nat} {bs : List UInt8} (h : OwnAt w base g n cap bs) : Bts w w.heap.size (some ⟨g, 0, none⟩) n bs := bts_of_own h rfl
theorem own_at {w : World} {base n c : Nat} {A : Option Addr} {bs : List UInt8} (h : w.ownsRow base 5 1 (.slice A n c) n (bvs bs)) (hn : 0 < n) : ∃ g, A = some ⟨g, 0, none⟩ ∧ OwnAt w base g n c bs ∧ base ≤ g := by
  obtain ⟨g, cap, hv, hb, _⟩ := h.form hn
  injection hv with h1 h2 h3
  subst h1
  exact ⟨g, rfl, h, hb⟩

theorem xor_turn (c p : Nat) (hc : c < 256) (hp : p < 8) : bits .xor .u8 (c : Int) (2 ^ p % 256) = ((UInt8.ofNat (c ^^^ 2 ^ p)).toNat : Int) := by
  have h1 : 2 ^ p < 256 := by
    have := two_pow_lt8 p hp
    omega
  have h2 : ((2 : Int) ^ p % 256) = ((2 ^ p : Nat) : Int) := by
    have e : ((2 : Int) ^ p) = ((2 ^ p : Nat) : Int) := by simp
    rw [e]
    generalize 2 ^ p = z at h1 ⊢
    omega
  have h3 := SumM.xor_lt c p hc hp
  rw [h2, u8_xor_nat c _ hc h1, UInt8.toNat_ofNat']
  omega
theorem add0_any (A : Option Addr) (n c : Nat) (bs : List UInt8) (W : World) (B : Nat) (hb : Bts W B A n bs) (hc : n ≤ c) (hm : c ≤ 9223372036854775807) :
    Calls Try.prog 9 #[.int .u16 0, .slice A n c] W fun e w' => e = .returned (.int .u16 (add 0 bs : Nat)) ∧ W = w' := add_any 0 A n c bs W B hb (by omega) hc hm

set_option maxHeartbeats 1000000 in
theorem sumZero_big (a0 : Option Addr) (n0 c0 : Nat) (m : Nat) (bs : List UInt8) (t b : Nat) (w : World) (hm2 : 2 ≤ m) (hm3 : m ≤ 3000) (hmc : m ≤ c0) (hc : c0 ≤ 9223372036854775807) (hsh : ∀ W, Calls Try.prog 10 #[.slice a0 n0 c0] W fun e w' => e = .returned (.slice a0 m c0) ∧ W = w')
    (hb : Bts w w.heap.size a0 m bs) (ht : t ≤ 65535) (hbt : b ≤ 65535) :
    Calls Try.prog 5 #[.slice a0 n0 c0, .int .u16 (t : Int), .int .u16 (b : Int)] w fun e w' => e = .returned (.bool true) ∧ Below w.heap.size w w' := by
  obtain ⟨i0, hi0, hz0, hz1, hz2⟩ := info_parts u8_info
  have H0 := Lib.hid hsh
  have HB := Lib.hid hb
  obtain ⟨q, hq, hq2⟩ : ∃ q : Nat, (t : Int) % ((m : Int) / 2) = (q : Int) ∧ q * 2 + 1 < m := by
    have hp : 0 < m / 2 := by omega
    have := Nat.mod_lt t hp
    exact ⟨t % (m / 2), by simp, by omega⟩
  clear hsh hb
  go_enter Try.func5, Try.ntmps5
  go_wp2_with (first
    | (go_at_call 10; refine (H0.out _).mono ?_; rintro e w' ⟨rfl, rfl⟩)
    | (at_builtin; refine wpList_append_new rfl (.tmp 10) (.tmp 12) _ rfl 5 i0 Try.underlying23 hi0 hz0 hz1 hz2 rfl _ a0 m c0 bs rfl HB.out (Nat.le_refl _) (by omega) ?_
       intro A1 c1 w1 hown hbel hcc
       obtain ⟨g, rfl, hown1, hg⟩ := own_at hown (by omega)
       have hf0 := hown1.frozenAt (q * 2)
       have hf1 := hown1.frozenAt (q * 2 + 1)
       have hv0 := own_cell hown1 (q * 2) (by omega)
       have hv1 := own_cell hown1 (q * 2 + 1) (by omega)
       have HO1 := Lib.hid hown1
       clear hown hown1))
  go_at_call 12
  have HO2 := own_lay HO1.out (q * 2) 0 (by omega) 0 0 (by rfl) (by rfl)
  have hbel2 := (hbel.setCell (p := ⟨g, q * 2, none⟩) hg (.int .u8 0)).setCell (p := ⟨g, q * 2 + 1, none⟩) hg (.int .u8 0)
  clear hf0 hf1 hv0 hv1 hbel HO1
  generalize (w1.setCell ⟨g, q * 2, none⟩ (.int .u8 0)).setCell ⟨g, q * 2 + 1, none⟩ (.int .u8 0) = w2 at HO2 hbel2 ⊢
  have hl : bs.length = m := HB.out.len
  have hz := zero_full bs (q * 2) (by omega) (by omega)
  refine (of_any _ m c1 _ w2 _ (own_bts HO2) (by omega) (by omega)).mono ?_
  rintro e w' ⟨rfl, rfl⟩
  have hcl : 65535 - add 0 (lay bs (q * 2) 0) ≤ 65535 := by omega
  generalize 65535 - add 0 (lay bs (q * 2) 0) = k at hz hcl ⊢
  generalize lay bs (q * 2) 0 = x2 at HO2 hz ⊢
  have hf0 := HO2.frozenAt (q * 2)
  have hf1 := HO2.frozenAt (q * 2 + 1)
  have hv0 := own_cell HO2 (q * 2) (by omega)
  have hv1 := own_cell HO2 (q * 2 + 1) (by omega)
  have HO2 := Lib.hid HO2
  have HZ := Lib.hid hz
  clear hz
  go_wp2_with fail
  go_at_call 9
  have HO3 := own_lay HO2.out (q * 2) k hcl _ _ rfl rfl
  have hbel3 := (hbel2.setCell (p := ⟨g, q * 2, none⟩) hg (.int .u8 ((k : Int) / 256))).setCell (p := ⟨g, q * 2 + 1, none⟩) hg (.int .u8 ((k : Int) % 256))
  clear hf0 hf1 hv0 hv1 hbel2 HO2
  generalize (w2.setCell ⟨g, q * 2, none⟩ (.int .u8 ((k : Int) / 256))).setCell ⟨g, q * 2 + 1, none⟩ (.int .u8 ((k : Int) % 256)) = w3 at HO3 hbel3 ⊢
  have hz := HZ.out
  clear HZ
  generalize lay x2 (q * 2) k = x3 at HO3 hz ⊢
  have hl3 := own_len HO3
  have C3 := add0_any _ m c1 _ w3 _ (own_bts HO3) (by omega) (by omega)
  rw [hz] at C3
  refine C3.mono ?_
  clear C3
  rintro e w' ⟨rfl, rfl⟩
  obtain ⟨j, hj, hj2⟩ : ∃ j : Nat, (b : Int) / 8 % (m : Int) = (j : Int) ∧ j < m := ⟨b / 8 % m, by simp, Nat.mod_lt _ (by omega)⟩
  obtain ⟨p, hp, hp2⟩ : ∃ p : Nat, (b : Int) % 8 = (p : Int) ∧ p < 8 := ⟨b % 8, by simp, by omega⟩
  have HN := Lib.hid (turn_not x3 j p (by omega) hp2 hz)
  have hf0 := HO3.frozenAt j
  have hv0 := own_cell HO3 j (by omega)
  have hbyt := byt_lt x3 j
  have HO3 := Lib.hid HO3
  clear hz
  go_wp2_with fail
  go_at_call 8
  have HO4 : OwnAt (w3.setCell ⟨g, j, none⟩ (.int .u8 (bits .xor .u8 (byt x3 j : Int) (2 ^ p % 256)))) w.heap.size g m c1 (turn x3 j p) := own_set HO3.out j _ _ (xor_turn _ _ hbyt hp2)
  have hbel4 := hbel3.setCell (p := ⟨g, j, none⟩) hg (.int .u8 (bits .xor .u8 (byt x3 j : Int) (2 ^ p % 256)))
  clear hf0 hv0 hbel3 HO3
  generalize w3.setCell ⟨g, j, none⟩ (.int .u8 (bits .xor .u8 (byt x3 j : Int) (2 ^ p % 256))) = w4 at HO4 hbel4 ⊢
  refine (awake_any _).mono ?_
  rintro e w5 ⟨rfl, hba⟩
  have HO5 := own_below HO4 hba
  have C5 := add0_any _ m c1 _ w5 _ (own_bts HO5) (by omega) (by omega)
  have hr := add_le 0 (turn x3 j p)
  have hr2 : add 0 (turn x3 j p) < 65535 := by have := HN.out; omega
  generalize add 0 (turn x3 j p) = r at C5 hr hr2
  have H5 := Lib.hid C5
  have hr3 : ((r : Int) == 65535) = false := by simp; omega
  have hr4 : ((r : Int) != 65535) = true := by simp; omega
  clear C5 HO4 HO5 HN
  go_wp2_with (go_at_call 9; refine H5.out.mono ?_; rintro e w' ⟨rfl, rfl⟩)
  go_ret
  exact ⟨rfl, hbel4.trans (hba.mono hbel4.size)⟩

set_option maxHeartbeats 1000000 in
theorem sumZero_small (a0 : Option Addr) (n0 c0 : Nat) (m : Nat) (bs : List UInt8) (t b : Nat) (w : World) (hm2 : m < 2) (hmc : m ≤ c0) (hc : c0 ≤ 9223372036854775807) (hsh : ∀ W, Calls Try.prog 10 #[.slice a0 n0 c0] W fun e w' => e = .returned (.slice a0 m c0) ∧ W = w')
    (hb : Bts w w.heap.size a0 m bs) (ht : t ≤ 65535) (hbt : b ≤ 65535) :
    Calls Try.prog 5 #[.slice a0 n0 c0, .int .u16 (t : Int), .int .u16 (b : Int)] w fun e w' => e = .returned (.bool true) ∧ Below w.heap.size w w' := by
  obtain ⟨i0, hi0, hz0, hz1, hz2⟩ := info_parts u8_info
  have H0 := Lib.hid hsh
  have HB := Lib.hid hb
  clear hsh hb
  go_enter Try.func5, Try.ntmps5
  go_wp2_with (first
    | (go_at_call 10; refine (H0.out _).mono ?_; rintro e w' ⟨rfl, rfl⟩)
    | (go_at_call 8; refine (awake_any _).mono ?_; rintro e w' ⟨rfl, hba⟩)
    | (at_builtin; refine wpList_append_new rfl (.tmp 10) (.tmp 12) _ rfl 5 i0 Try.underlying23 hi0 hz0 hz1 hz2 rfl _ a0 m c0 bs rfl HB.out (Nat.le_refl _) (by omega) ?_
       intro A1 c1 w1 hown hbel hcc
       clear hown))
  go_ret
  exact ⟨rfl, hbel.trans (hba.mono hbel.size)⟩

theorem sumZero_walk (a0 : Option Addr) (n0 c0 : Nat) (b0 : List UInt8) (a1 a2 : Int) (w : World) (w0 : Bts w w.heap.size a0 n0 b0) (hc0 : n0 ≤ c0) (hm0 : c0 ≤ maxLen) (w1 : 0 ≤ a1 ∧ a1 ≤ 65535) (w2 : 0 ≤ a2 ∧ a2 ≤ 65535) :
    Calls Try.prog 5 #[.slice a0 n0 c0, .int .u16 a1, .int .u16 a2] w fun e w' => e = .returned (.bool true) ∧ Below w.heap.size w w' := by
  unfold maxLen at hm0
  obtain ⟨t, rfl⟩ := Int.eq_ofNat_of_zero_le w1.1
  obtain ⟨b, rfl⟩ := Int.eq_ofNat_of_zero_le w2.1
  have hb := w0.take 3000
  have C0 := fun W => short_any a0 n0 c0 hc0 (by omega) W
  by_cases h : min n0 3000 < 2
  · exact sumZero_small a0 n0 c0 _ _ t b w h (by omega) (by omega) C0 hb (by omega) (by omega)
  · exact sumZero_big a0 n0 c0 _ _ t b w (by omega) (by omega) (by omega) (by omega) C0 hb (by omega) (by omega)

end Sm
end Go.Proofs.Ytlbhfendocepiaa
