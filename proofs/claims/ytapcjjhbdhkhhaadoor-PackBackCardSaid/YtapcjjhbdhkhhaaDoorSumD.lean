/- The walk of SumZero. -/
import Derived.Test.YtapcjjhbdhkhhaaDoorSumB
set_option linter.unusedVariables false
namespace Go.Proofs.YtapcjjhbdhkhhaaDoor
open Go.ChangeShapes Go.WideShapes Go.ChangeAt Go.RowKit Go.Mtl
namespace Sm
open SumM (norm add upto norm_big norm_small add_le upto_zero upto_le upto_step upto_word upto_last upto_done norm_le lay lay_len turn turn_len zero_full turn_not two_pow_lt8)

theorem u8_info : (Tryd.prog.info? 5).map (fun i => (i.zero, i.size, i.bytes)) = some (some (.int .u8 0), 1, 1) := by kernel_rfl
theorem u8_wrap (n : Int) : IntKind.u8.wrap n = n % 256 := by simp [IntKind.wrap, IntKind.bits, IntKind.signed]

/-- A row of the call's own at block g. -/
abbrev OwnAt (w : World) (base g n cap : Nat) (bs : List UInt8) : Prop := w.ownsRow base 5 1 (.slice (some ⟨g, 0, none⟩) n cap) n (bvs bs)
theorem own_lay {w : World} {base g n cap : Nat} {bs : List UInt8} (h : OwnAt w base g n cap bs) (k c : Nat) (hc : c ≤ 65535) (x y : Int) (hx : x = (c : Int) / 256) (hy : y = (c : Int) % 256) :
    OwnAt ((w.setCell ⟨g, k, none⟩ (.int .u8 x)).setCell ⟨g, k + 1, none⟩ (.int .u8 y)) base g n cap (lay bs k c) :=
  own_set (own_set h k (UInt8.ofNat (c / 256)) x (by rw [UInt8.toNat_ofNat']; omega)) (k + 1) (UInt8.ofNat (c % 256)) y (by rw [UInt8.toNat_ofNat']; omega)
theorem own_len {w : World} {base g n cap : Nat} {bs : List UInt8} (h : OwnAt w base g n cap bs) : bs.length = n := by have := h.1; rw [bvs_len] at this; omega
theorem own_bts {w : World} {base g n cap : Nat} {bs : List UInt8} (h : OwnAt w base g n cap bs) : Bts w w.heap.size (some ⟨g, 0, none⟩) n bs := bts_of_own h rfl
theorem own_at {w : World} {base n c : Nat} {A : Option Addr} {bs : List UInt8} (h : w.ownsRow base 5 1 (.slice A n c) n (bvs bs)) (hn : 0 < n) : ∃ g, A = some ⟨g, 0, none⟩ ∧ OwnAt w base g n c bs ∧ base ≤ g := by
  obtain ⟨g, cap, hv, hb, _⟩ := h.form hn
  injection hv with h1 h2 h3
  subst h1
  exact ⟨g, rfl, h, hb⟩

theorem xor_turn (c p : Nat) (hc : c < 256) (hp : p < 8) : bits .xor .u8 (c : Int) (2 ^ p % 256) = ((UInt8.ofNat (c ^^^ 2 ^ p)).toNat : Int) := by
  have h1 : 2 ^ p < 256 := by
    have := two_pow_lt8 p hp
    omega
  have h2 : ((2 : Int) ^ p % 256) = ((2 ^ p : Nat) : Int) := by
    have e : ((2 : Int) ^ p) = ((2 ^ p : Nat) : Int) := by simp
    rw [e]
    generalize 2 ^ p = z at h1 ⊢
    omega
  have h3 := SumM.xor_lt c p hc hp
  rw [h2, u8_xor_nat c _ hc h1, UInt8.toNat_ofNat']
  omega
theorem add0_any (A : Option Addr) (n c : Nat) (bs : List UInt8) (W : World) (B : Nat) (hb : Bts W B A n bs) (hc : n ≤ c) (hm : c ≤ 9223372036854775807) :
    Calls Tryd.prog 49 #[.int .u16 0, .slice A n c] W fun e w' => e = .returned (.int .u16 (add 0 bs : Nat)) ∧ W = w' := add_any 0 A n c bs W B hb (by omega) hc hm

end Sm
end Go.Proofs.YtapcjjhbdhkhhaaDoor
