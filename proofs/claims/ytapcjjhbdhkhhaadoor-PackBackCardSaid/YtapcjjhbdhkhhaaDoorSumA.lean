/- Contracts of package sum and of its reference. -/
import Derived.Test.YtapcjjhbdhkhhaaDoorRows
import Derived.Test.YtapcjjhbdhkhhaaDoorSumM
import Derived.WalkKit
import Derived.ProofKit
import Derived.OpenShut
import Derived.BigQuiet
import Derived.Deep.RegionWith
import Derived.Lib.Hide
set_option linter.unusedVariables false
namespace Go.Proofs.YtapcjjhbdhkhhaaDoor
open Go.ChangeShapes Go.WideShapes Go.ChangeAt Go.RowKit Go.Mtl
namespace Sm
open SumM (norm add upto norm_big norm_small add_le upto_zero upto_le upto_step upto_word upto_last upto_done norm_le)

theorem ret_int {k : IntKind} {a b : Int} (h : a = b) : Ending.returned (.int k a) = .returned (.int k b) := by rw [h]
theorem u16_wrap (n : Int) : IntKind.u16.wrap n = n % 65536 := by simp [IntKind.wrap, IntKind.bits, IntKind.signed]

theorem not16 (k : Nat) (h : k ≤ 65535) : bits .xor .u16 IntKind.u16.max (k : Int) = ((65535 - k : Nat) : Int) := by
  show IntKind.u16.wrap ((BitVec.ofInt 16 65535 ^^^ BitVec.ofInt 16 (k : Int)).toNat : Int) = _
  have h1 : BitVec.ofInt 16 65535 = BitVec.allOnes 16 := by decide
  have h2 : (BitVec.ofInt 16 (k : Int)).toNat = k := by
    rw [BitVec.ofInt_natCast, BitVec.toNat_ofNat]; exact Nat.mod_eq_of_lt (by omega)
  rw [h1, BitVec.allOnes_xor, BitVec.toNat_not, h2, u16_wrap]
  omega

theorem not16i (k : Nat) (h : k ≤ 65535) : bits .xor .u16 IntKind.u16.max (k : Int) = 65535 - (k : Int) := by rw [not16 k h]; omega
theorem carry_is (x y : Nat) (hx : x ≤ 65535) (hy : y ≤ 65535) : IntKind.u16.wrap (IntKind.u16.wrap ((x : Int) + y) + ((x : Int) + y) / 65536) = (norm (x + y) : Nat) := by
  rw [u16_wrap, u16_wrap]
  by_cases h : 65535 < x + y
  · rw [norm_big _ h (by omega)]; omega
  · rw [norm_small _ (by omega)]; omega
theorem carry_any (x y : Nat) (hx : x ≤ 65535) (hy : y ≤ 65535) (w : World) :
    Calls Tryd.prog 55 #[.int .u16 (x : Int), .int .u16 (y : Int)] w fun e w' => e = .returned (.int .u16 (norm (x + y) : Nat)) ∧ w = w' := by
  go_enter Tryd.func55, Tryd.ntmps55
  go_wp2
  go_ret
  exact ⟨ret_int (carry_is x y hx hy), rfl⟩

theorem part_any (i c : Nat) (hi : i ≤ 9223372036854775807) (hc : c < 256) (w : World) :
    Calls Tryd.prog 56 #[.int .i64 (i : Int), .int .u8 (c : Int)] w fun e w' => e = .returned (.int .u16 (SumM.part i c : Nat)) ∧ w = w' := by
  by_cases h : i % 2 = 0
  · have h2 : (i : Int) % 2 = 0 := by omega
    have h3 : 0 ≤ (c : Int) * 256 ∧ (c : Int) * 256 < 65536 := by omega
    have HF := Lib.hid (SumM.part_even c h)
    clear h
    go_enter Tryd.func56, Tryd.ntmps56
    go_wp2
    go_ret
    exact ⟨ret_int (by first | (rw [HF.out]; done) | (rw [HF.out]; rfl) | (rw [HF.out]; simp; done) | (rw [HF.out, u16_wrap]; simp; omega) | (rw [HF.out]; simp; omega)), rfl⟩
  · have h2 : (i : Int) % 2 = 1 := by omega
    have HF := Lib.hid (SumM.part_odd c (show i % 2 = 1 by omega))
    clear h
    go_enter Tryd.func56, Tryd.ntmps56
    go_wp2
    go_ret
    exact ⟨ret_int (by first | (rw [HF.out]; done) | (rw [HF.out]; rfl)), rfl⟩

theorem two_any (x y : Nat) (hx : x ≤ 65535) (hy : y ≤ 65535) (w : World) :
    Calls Tryd.prog 50 #[.int .i64 (x : Int), .int .i64 (y : Int)] w fun e w' => e = .returned (.int .i64 (norm (x + y) : Nat)) ∧ w = w' := by
  by_cases h : 65535 < x + y
  · have HF := Lib.hid (norm_big (x + y) h (by omega))
    have h2 : (65535 : Int) < x + y := by omega
    go_enter Tryd.func50, Tryd.ntmps50
    go_wp2
    go_ret
    exact ⟨ret_int (by rw [HF.out]; omega), rfl⟩
  · have HF := Lib.hid (norm_small (x + y) (by omega))
    have h2 : ¬ (65535 : Int) < x + y := by omega
    go_enter Tryd.func50, Tryd.ntmps50
    go_wp2
    go_ret
    exact ⟨ret_int (by first | (rw [HF.out]; done) | (rw [HF.out]; omega)), rfl⟩

theorem two_int (x y : Int) (v : Nat) (hx : 0 ≤ x ∧ x ≤ 65535) (hy : 0 ≤ y ∧ y ≤ 65535) (hv : norm (x.toNat + y.toNat) = v) (w : World) :
    Calls Tryd.prog 50 #[.int .i64 x, .int .i64 y] w fun e w' => e = .returned (.int .i64 (v : Int)) ∧ w = w' := by
  obtain ⟨x, rfl⟩ := Int.eq_ofNat_of_zero_le hx.1
  obtain ⟨y, rfl⟩ := Int.eq_ofNat_of_zero_le hy.1
  subst hv
  exact two_any x y (by omega) (by omega) w
theorem carry_int (x y : Int) (v : Nat) (hx : 0 ≤ x ∧ x ≤ 65535) (hy : 0 ≤ y ∧ y ≤ 65535) (hv : norm (x.toNat + y.toNat) = v) (w : World) :
    Calls Tryd.prog 55 #[.int .u16 x, .int .u16 y] w fun e w' => e = .returned (.int .u16 (v : Int)) ∧ w = w' := by
  obtain ⟨x, rfl⟩ := Int.eq_ofNat_of_zero_le hx.1
  obtain ⟨y, rfl⟩ := Int.eq_ofNat_of_zero_le hy.1
  subst hv
  exact carry_any x y (by omega) (by omega) w

set_option maxHeartbeats 1000000 in
theorem add_any (s : Nat) (A : Option Addr) (n c : Nat) (bs : List UInt8) (W : World) (B : Nat) (hb : Bts W B A n bs) (hs : s ≤ 65535) (hc : n ≤ c) (hm : c ≤ 9223372036854775807) :
    Calls Tryd.prog 49 #[.int .u16 (s : Int), .slice A n c] W fun e w' => e = .returned (.int .u16 (add s bs : Nat)) ∧ W = w' := by
  have hl := hb.len
  have HB := Lib.hid hb
  have HZ := Lib.hid (upto_zero s bs hs)
  clear hb
  go_enter Tryd.func49, Tryd.ntmps49
  go_wp2
  go_loop [0, 5, 6, 9] (fun s' _ _ i => ∃ k : Nat, k ≤ n ∧ i = .int .i64 (k : Int) ∧ s' = .int .u16 (upto s bs k : Nat)) (fun _ _ _ i => n - (intOf i).toNat)
  case atStart => exact ⟨0, by omega, rfl, by rw [HZ.out]⟩
  case round =>
    obtain ⟨k, hk, rfl, rfl⟩ := hrel
    by_cases hlt : k < n
    · obtain ⟨b, off, rfl, _, hcell⟩ := HB.out.at_ (by omega)
      have hk1 := hcell k hlt
      have hby := byt_lt bs k
      have hu := upto_le s bs k
      have hpl := SumM.part_le k _ hby
      have HS := Lib.hid (upto_step s bs k)
      clear hcell
      go_wp2_with (first
        | (go_at_call 56; refine (part_any _ _ (by omega) hby _).mono ?_; rintro e w' ⟨rfl, rfl⟩)
        | (go_at_call 55; refine (carry_any _ _ hu (by omega) _).mono ?_; rintro e w' ⟨rfl, rfl⟩))
      go_round
      case rel => exact ⟨k + 1, by omega, by go_num, by rw [HS.out]⟩
      case measure => simp [intOf]; omega
    · have HK := Lib.hid (upto_done s bs k (by omega))
      go_wp2
      go_ret
      exact ⟨by rw [← HK.out]; rfl, rfl⟩

set_option maxHeartbeats 1000000 in
theorem refAdd_any (s : Nat) (A : Option Addr) (n c : Nat) (bs : List UInt8) (W : World) (B : Nat) (hb : Bts W B A n bs) (hs : s ≤ 65535) (hc : n ≤ c) (hn : n ≤ 140737488355328) (hm : c ≤ 9223372036854775807) :
    Calls Tryd.prog 32 #[.int .i64 (s : Int), .slice A n c] W fun e w' => e = .returned (.int .i64 (add s bs : Nat)) ∧ W = w' := by
  have hl := hb.len
  have HB := Lib.hid hb
  have HZ := Lib.hid (upto_zero s bs hs)
  clear hb
  go_enter Tryd.func32, Tryd.ntmps32
  go_wp2
  go_loop [0, 5, 6] (fun s' i _ => ∃ k : Nat, k % 2 = 0 ∧ k ≤ n + 1 ∧ i = .int .i64 (k : Int) ∧ s' = .int .i64 (upto s bs k : Nat)) (fun _ i _ => n + 1 - (intOf i).toNat)
  case atStart => exact ⟨0, by omega, by omega, rfl, by rw [HZ.out]⟩
  case round =>
    obtain ⟨k, hk2, hk, rfl, rfl⟩ := hrel
    by_cases hlt : k < n
    · obtain ⟨b, off, rfl, _, hcell⟩ := HB.out.at_ (by omega)
      have hk1 := hcell k hlt
      have hby := byt_lt bs k
      have hby1 := byt_lt bs (k + 1)
      have hu := upto_le s bs k
      by_cases hlt1 : k + 1 < n
      · have hk1' := hcell (k + 1) hlt1
        have HS := Lib.hid (upto_word s bs k hk2)
        have HK2 := Lib.hid hk2
        clear hcell hk2
        go_wp2_with (go_at_call 50; refine (two_int _ _ (upto s bs (k + 2)) (by omega) (by omega) ((congrArg norm (by omega)).trans HS.out) _).mono ?_; rintro e w' ⟨rfl, rfl⟩)
        go_round
        case rel => exact ⟨k + 2, by have := HK2.out; omega, by omega, by go_num, rfl⟩
        case measure => simp [intOf]; omega
      · have HS := Lib.hid (upto_last s bs k hk2 (by omega))
        have HK2 := Lib.hid hk2
        clear hcell hk2
        go_wp2_with (go_at_call 50; refine (two_int _ _ (upto s bs (k + 2)) (by omega) (by omega) ((congrArg norm (by omega)).trans HS.out) _).mono ?_; rintro e w' ⟨rfl, rfl⟩)
        go_round
        case rel => exact ⟨k + 2, by have := HK2.out; omega, by omega, by go_num, rfl⟩
        case measure => simp [intOf]; omega
    · have HK := Lib.hid (upto_done s bs k (by omega))
      clear hk2
      go_wp2
      go_ret
      exact ⟨by rw [← HK.out]; rfl, rfl⟩

theorem of_any (A : Option Addr) (n c : Nat) (bs : List UInt8) (W : World) (B : Nat) (hb : Bts W B A n bs) (hc : n ≤ c) (hm : c ≤ 9223372036854775807) :
    Calls Tryd.prog 30 #[.slice A n c] W fun e w' => e = .returned (.int .u16 (65535 - add 0 bs : Nat)) ∧ W = w' := by
  have HC := Lib.hid (add_any 0 A n c bs W B hb (by omega) hc hm)
  have HF := Lib.hid (not16 (add 0 bs) (add_le 0 bs))
  have hl := add_le 0 bs
  clear hb
  go_enter Tryd.func30, Tryd.ntmps30
  go_wp2_with (go_at_call 49; refine HC.out.mono ?_; rintro e w' ⟨rfl, rfl⟩)
  go_ret
  exact ⟨ret_int (by first | (rw [← HF.out]; done) | (rw [← HF.out]; rfl)), rfl⟩

theorem ofI_any (A : Option Addr) (n c : Nat) (bs : List UInt8) (W : World) (B : Nat) (hb : Bts W B A n bs) (hc : n ≤ c) (hm : c ≤ 9223372036854775807) :
    Calls Tryd.prog 30 #[.slice A n c] W fun e w' => e = .returned (.int .u16 (65535 - (add 0 bs : Nat) : Int)) ∧ W = w' := by
  have h := add_le 0 bs
  have := of_any A n c bs W B hb hc hm
  rwa [show ((65535 - add 0 bs : Nat) : Int) = 65535 - (add 0 bs : Int) by omega] at this

end Sm
end Go.Proofs.YtapcjjhbdhkhhaaDoor
