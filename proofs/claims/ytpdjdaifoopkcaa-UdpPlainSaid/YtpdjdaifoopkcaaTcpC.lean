/- Layer 5: contracts of tcp's check and Parse, and of the reference's Parse. -/
import Derived.Test.YtpdjdaifoopkcaaTcpB
import Derived.Deep.QuietTactic
set_option linter.unusedVariables false
set_option linter.unusedSimpArgs false
namespace Go.Proofs.Ytpdjdaifoopkcaa
open Go.ChangeShapes Go.WideShapes Go.ChangeAt Go.RowKit Go.Mtl
namespace Tc
open TcpM (saneB psB psN totN psN_le totN_le errT)
open SumM (add add_le)
open IpM (word word_lt twoB fourB)
open Ip (ret_int MadeO Row But u8_info own_bts own_lit)

theorem and63 (x : Nat) (h : x < 256) : bits .and .u8 (x : Int) 63 = (x : Int) % 64 := by
  have h1 := and_u8 x 63 h (by omega)
  have h2 : x &&& 63 = x % 64 := Nat.and_two_pow_sub_one_eq_mod x 6
  rw [h2] at h1
  exact h1.trans (by omega)

/-- What Parse answers. -/
abbrev badV (e : Nat) : Value := .tuple #[.int .u16 0, .int .u16 0, .int .u8 0, .int .i64 (e : Int)]
abbrev okV (bs : List UInt8) : Value := .tuple #[.int .u16 (word bs 0 : Int), .int .u16 (word bs 2 : Int), .int .u8 ((byt bs 13 : Int) % 64), .int .i64 0]

def pV (e : Nat) (bs : List UInt8) : Value := if e = 0 then okV bs else badV e
theorem pV_ok {e : Nat} (bs : List UInt8) (h : e = 0) : pV e bs = okV bs := by unfold pV; rw [if_pos h]
theorem pV_bad {e : Nat} (bs : List UInt8) (h : e ≠ 0) : pV e bs = badV e := by unfold pV; rw [if_neg h]

theorem two_int (A : Option Addr) (n c : Nat) (bs : List UInt8) (B : Nat) (a : Int) (W : World) (hb : Bts W B A n bs) (hc : n ≤ c) (hm : c ≤ 9223372036854775807) (h0 : 0 ≤ a) (h3 : a + 2 ≤ n) :
    Calls Try.prog 15 #[.slice A n c, .int .i64 a] W fun e w' => e = .returned (.int .i64 (word bs a.toNat : Int)) ∧ ∃ k, w' = W.drewN k := by
  obtain ⟨a, rfl⟩ := Int.eq_ofNat_of_zero_le h0
  exact Ip.two_any A n c bs B a W hb hc hm (by omega)

end Tc
end Go.Proofs.Ytpdjdaifoopkcaa
