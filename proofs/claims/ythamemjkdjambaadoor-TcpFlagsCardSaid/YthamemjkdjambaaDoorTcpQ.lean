/- Layer 5: the walks of TcpFlags and TcpParses. -/
import Derived.Test.YthamemjkdjambaaDoorTcpP
set_option linter.unusedVariables false
set_option linter.unusedSimpArgs false
namespace Go.Proofs.YthamemjkdjambaaDoor
open Go.ChangeShapes Go.WideShapes Go.ChangeAt Go.RowKit Go.Mtl
namespace Tc
open TcpM (saneB psB psN totN psN_le totN_le errT errT_le segB seg ckN row1)
open SumM (add add_le)
open IpM (word word_lt twoB fourB)
open Ip (ret_int MadeO Row But u8_info own_bts own_lit)

theorem or_u8 (x y : Nat) (hx : x < 256) (hy : y < 256) : bits .or .u8 (x : Int) (y : Int) = ((x ||| y : Nat) : Int) := by
  show IntKind.u8.wrap ((BitVec.ofInt 8 (x : Int) ||| BitVec.ofInt 8 (y : Int)).toNat : Int) = _
  rw [BitVec.ofInt_natCast, BitVec.ofInt_natCast, BitVec.toNat_or, BitVec.toNat_ofNat, BitVec.toNat_ofNat, Nat.mod_eq_of_lt (by omega), Nat.mod_eq_of_lt (by omega)]
  have : x ||| y < 2 ^ 8 := Nat.or_lt_two_pow hx hy
  simp [IntKind.wrap, IntKind.bits, IntKind.signed]
  omega
theorem xor_u8 (x y : Nat) (hx : x < 256) (hy : y < 256) : bits .xor .u8 (x : Int) (y : Int) = ((x ^^^ y : Nat) : Int) := by
  show IntKind.u8.wrap ((BitVec.ofInt 8 (x : Int) ^^^ BitVec.ofInt 8 (y : Int)).toNat : Int) = _
  rw [BitVec.ofInt_natCast, BitVec.ofInt_natCast, BitVec.toNat_xor, BitVec.toNat_ofNat, BitVec.toNat_ofNat, Nat.mod_eq_of_lt (by omega), Nat.mod_eq_of_lt (by omega)]
  have : x ^^^ y < 2 ^ 8 := Nat.xor_lt_two_pow hx hy
  simp [IntKind.wrap, IntKind.bits, IntKind.signed]
  omega
theorem or_lt (x y : Nat) (hx : x < 256) (hy : y < 256) : x ||| y < 256 := Nat.or_lt_two_pow (n := 8) hx hy
theorem xor_lt (x y : Nat) (hx : x < 256) (hy : y < 256) : x ^^^ y < 256 := Nat.xor_lt_two_pow (n := 8) hx hy

set_option maxHeartbeats 2000000 in
theorem tcpFlags_core (f : Nat) (hf : f < 256) (s : Bool) (hs : saneB f = s) (W : World) (he : Env W) :
    Calls Tryd.prog 6 #[.int .u8 (f : Int)] W fun e w' => e = .returned (.bool true) ∧ Below W.heap.size W w' := by
  obtain ⟨t3, t6, t5⟩ := TcpM.sane_two f hf
  have S0 := Lib.hid (fun W he => sane_any f hf s hs W he)
  have S1 := Lib.hid (fun W he => sane_any (f ^^^ 8) (xor_lt _ _ hf (by omega)) s ((TcpM.sane_psh f hf).trans hs) W he)
  have S2 := Lib.hid (fun W he => sane_any (f ^^^ 32) (xor_lt _ _ hf (by omega)) s ((TcpM.sane_urg f hf).trans hs) W he)
  have S3 := Lib.hid (fun W he => sane_any (f ||| 3) (or_lt _ _ hf (by omega)) false t3 W he)
  have S4 := Lib.hid (fun W he => sane_any (f ||| 6) (or_lt _ _ hf (by omega)) false t6 W he)
  have S5 := Lib.hid (fun W he => sane_any (f ||| 5) (or_lt _ _ hf (by omega)) false t5 W he)
  have S6 : Hid (s = true → ∀ W, Env W → Calls Tryd.prog 13 #[.int .u8 ((f ||| 16 : Nat) : Int)] W fun e w' => e = .returned (.bool true) ∧ Below W.heap.size W w') :=
    fun h W he => sane_any (f ||| 16) (or_lt _ _ hf (by omega)) true (TcpM.sane_ack f hf (hs.trans h)) W he
  have x8 : bits .xor .u8 (f : Int) 8 = ((f ^^^ 8 : Nat) : Int) := xor_u8 f 8 hf (by omega)
  have x32 : bits .xor .u8 (f : Int) 32 = ((f ^^^ 32 : Nat) : Int) := xor_u8 f 32 hf (by omega)
  have o16 : bits .or .u8 (f : Int) 16 = ((f ||| 16 : Nat) : Int) := or_u8 f 16 hf (by omega)
  have o1 : bits .or .u8 (f : Int) 1 = ((f ||| 1 : Nat) : Int) := or_u8 f 1 hf (by omega)
  have o4 : bits .or .u8 (f : Int) 4 = ((f ||| 4 : Nat) : Int) := or_u8 f 4 hf (by omega)
  have o12 : bits .or .u8 ((f ||| 1 : Nat) : Int) 2 = ((f ||| 3 : Nat) : Int) := (or_u8 (f ||| 1) 2 (or_lt _ _ hf (by omega)) (by omega)).trans (by rw [Nat.or_assoc]; rfl)
  have o42 : bits .or .u8 ((f ||| 4 : Nat) : Int) 2 = ((f ||| 6 : Nat) : Int) := (or_u8 (f ||| 4) 2 (or_lt _ _ hf (by omega)) (by omega)).trans (by rw [Nat.or_assoc]; rfl)
  have o41 : bits .or .u8 ((f ||| 4 : Nat) : Int) 1 = ((f ||| 5 : Nat) : Int) := (or_u8 (f ||| 4) 1 (or_lt _ _ hf (by omega)) (by omega)).trans (by rw [Nat.or_assoc]; rfl)
  generalize f ^^^ 8 = f8 at S1 x8
  generalize f ^^^ 32 = f32 at S2 x32
  generalize f ||| 3 = f3 at S3 o12
  generalize f ||| 6 = f6 at S4 o42
  generalize f ||| 5 = f5 at S5 o41
  generalize f ||| 16 = f16 at S6 o16
  generalize f ||| 1 = f1 at o1 o12
  generalize f ||| 4 = f4 at o4 o42 o41
  have HE := Lib.hid he
  clear hs t3 t6 t5 he
  go_enter Tryd.func6, Tryd.ntmps6
  go_wp2_with fail
  go_at_call 13
  refine (S0.out _ HE.out).mono ?_
  rintro e w1 ⟨rfl, hb1⟩
  have HE1 := Lib.hid (HE.out.below hb1 (Nat.le_refl _))
  have HB1 := Lib.hid hb1
  clear hb1 HE
  go_wp2_with fail
  go_at_call 10
  refine (awake_any _ HE1.out).mono ?_
  rintro e w2 ⟨rfl, hb2⟩
  have HE2 := Lib.hid (HE1.out.below hb2 (Nat.le_refl _))
  have HB2 := Lib.hid (HB1.out.trans (hb2.mono HB1.out.size))
  clear hb2 HE1 HB1
  go_wp2_with fail
  go_at_call 13
  refine (S1.out _ HE2.out).mono ?_
  rintro e w3 ⟨rfl, hb3⟩
  have HE3 := Lib.hid (HE2.out.below hb3 (Nat.le_refl _))
  have HB3 := Lib.hid (HB2.out.trans (hb3.mono HB2.out.size))
  clear hb3 HE2 HB2
  go_wp2_with fail
  go_at_call 13
  refine (S2.out _ HE3.out).mono ?_
  rintro e w4 ⟨rfl, hb4⟩
  have HE4 := Lib.hid (HE3.out.below hb4 (Nat.le_refl _))
  have HB4 := Lib.hid (HB3.out.trans (hb4.mono HB3.out.size))
  clear hb4 HE3 HB3
  go_wp2_with fail
  go_at_call 13
  refine (S3.out _ HE4.out).mono ?_
  rintro e w5 ⟨rfl, hb5⟩
  have HE5 := Lib.hid (HE4.out.below hb5 (Nat.le_refl _))
  have HB5 := Lib.hid (HB4.out.trans (hb5.mono HB4.out.size))
  clear hb5 HE4 HB4
  go_wp2_with fail
  go_at_call 13
  refine (S4.out _ HE5.out).mono ?_
  rintro e w6 ⟨rfl, hb6⟩
  have HE6 := Lib.hid (HE5.out.below hb6 (Nat.le_refl _))
  have HB6 := Lib.hid (HB5.out.trans (hb6.mono HB5.out.size))
  clear hb6 HE5 HB5
  go_wp2_with fail
  go_at_call 13
  refine (S5.out _ HE6.out).mono ?_
  rintro e w7 ⟨rfl, hb7⟩
  have HE7 := Lib.hid (HE6.out.below hb7 (Nat.le_refl _))
  have HB7 := Lib.hid (HB6.out.trans (hb7.mono HB6.out.size))
  clear hb7 HE6 HB6
  cases s
  · go_wp2_with fail
    go_ret
    exact ⟨rfl, HB7.out⟩
  · go_wp2_with fail
    go_at_call 13
    refine (S6.out (by first | rfl | trivial) _ HE7.out).mono ?_
    rintro e w8 ⟨rfl, hb8⟩
    have HB8 := Lib.hid (HB7.out.trans (hb8.mono HB7.out.size))
    clear hb8 HE7 HB7
    go_wp2_with fail
    go_ret
    exact ⟨rfl, HB8.out⟩

theorem tcpFlags_walk (a0 : Int) (w : World) (he : Env w) (w0 : 0 ≤ a0 ∧ a0 ≤ 255) :
    Calls Tryd.prog 6 #[.int .u8 a0] w fun e w' => e = .returned (.bool true) ∧ Below w.heap.size w w' := by
  obtain ⟨f, rfl⟩ := Int.eq_ofNat_of_zero_le w0.1
  exact tcpFlags_core f (by omega) (saneB f) rfl w he

set_option maxHeartbeats 2000000 in
theorem tcpParses_core (sr ds : Nat) (A : Option Addr) (n c m : Nat) (bs : List UInt8) (W : World) (hmc : m ≤ c) (hm : c ≤ 9223372036854775807) (hm6 : m ≤ 1600) (hsr : sr < 4294967296) (hds : ds < 4294967296)
    (hsh : ∀ W, Calls Tryd.prog 8 #[.slice A n c] W fun e w' => e = .returned (.slice A m c) ∧ W = w') (hb : Bts W W.heap.size A m bs) (he : Env W) :
    Calls Tryd.prog 3 #[.int .u32 (sr : Int), .int .u32 (ds : Int), .slice A n c] W fun e w' => e = .returned (.bool true) ∧ Below W.heap.size W w' := by
  have H0 := Lib.hid hsh
  have HB := Lib.hid hb
  have HE := Lib.hid he
  have P1 := Lib.hid (fun W' (hb : Bts W' W.heap.size A m bs) h he => parse_any sr ds A m c bs W.heap.size W' hb h hmc hm hsr hds he)
  have P2 := Lib.hid (fun W' (hb : Bts W' W.heap.size A m bs) h => refParse_any sr ds A m c bs W.heap.size W' hb h hmc hm (by omega) hsr hds)
  have hel := errT_le sr ds bs
  have w0 := word_lt bs 0
  have w2 := word_lt bs 2
  have y13 := byt_lt bs 13
  clear hsh hb he
  generalize errT sr ds bs = er at P1 P2 hel
  by_cases h0 : er = 0
  · rw [pV_ok bs h0] at P1 P2
    clear h0
    go_enter Tryd.func3, Tryd.ntmps3
    go_wp2_with (go_at_call 8; refine (H0.out _).mono ?_; rintro e w' ⟨rfl, rfl⟩)
    go_at_call 7
    refine (P1.out _ HB.out (Nat.le_refl _) HE.out).mono ?_
    rintro e w1 ⟨rfl, hb1⟩
    have HE1 := Lib.hid (HE.out.below hb1 (Nat.le_refl _))
    have HB1 := Lib.hid hb1
    clear hb1 HE
    go_wp2_with (go_at_call 8; refine (H0.out _).mono ?_; rintro e w' ⟨rfl, rfl⟩)
    go_at_call 9
    refine (P2.out _ (HB.out.below HB1.out) HB1.out.size).mono ?_
    rintro e w2 ⟨rfl, hb2⟩
    have HE2 := Lib.hid (HE1.out.below hb2 (Nat.le_refl _))
    have HB2 := Lib.hid (HB1.out.trans (hb2.mono HB1.out.size))
    clear hb2 HE1 HB1
    go_wp2_with fail
    go_at_call 10
    refine (awake_any _ HE2.out).mono ?_
    rintro e w3 ⟨rfl, hb3⟩
    have HB3 := Lib.hid (HB2.out.trans (hb3.mono HB2.out.size))
    clear hb3 HE2 HB2
    go_wp2_with fail
    go_ret
    exact ⟨rfl, HB3.out⟩
  · rw [pV_bad bs h0] at P1 P2
    clear h0
    go_enter Tryd.func3, Tryd.ntmps3
    go_wp2_with (go_at_call 8; refine (H0.out _).mono ?_; rintro e w' ⟨rfl, rfl⟩)
    go_at_call 7
    refine (P1.out _ HB.out (Nat.le_refl _) HE.out).mono ?_
    rintro e w1 ⟨rfl, hb1⟩
    have HE1 := Lib.hid (HE.out.below hb1 (Nat.le_refl _))
    have HB1 := Lib.hid hb1
    clear hb1 HE
    go_wp2_with (go_at_call 8; refine (H0.out _).mono ?_; rintro e w' ⟨rfl, rfl⟩)
    go_at_call 9
    refine (P2.out _ (HB.out.below HB1.out) HB1.out.size).mono ?_
    rintro e w2 ⟨rfl, hb2⟩
    have HE2 := Lib.hid (HE1.out.below hb2 (Nat.le_refl _))
    have HB2 := Lib.hid (HB1.out.trans (hb2.mono HB1.out.size))
    clear hb2 HE1 HB1
    go_wp2_with fail
    go_at_call 10
    refine (awake_any _ HE2.out).mono ?_
    rintro e w3 ⟨rfl, hb3⟩
    have HB3 := Lib.hid (HB2.out.trans (hb3.mono HB2.out.size))
    clear hb3 HE2 HB2
    go_wp2_with fail
    go_ret
    exact ⟨rfl, HB3.out⟩

theorem tcpParses_walk (a0 a1 : Int) (A : Option Addr) (n c : Nat) (bs : List UInt8) (w : World) (he : Env w) (w0 : 0 ≤ a0 ∧ a0 ≤ 4294967295) (w1 : 0 ≤ a1 ∧ a1 ≤ 4294967295) (w2 : Bts w w.heap.size A n bs) (hc : n ≤ c) (hm : c ≤ maxLen) :
    Calls Tryd.prog 3 #[.int .u32 a0, .int .u32 a1, .slice A n c] w fun e w' => e = .returned (.bool true) ∧ Below w.heap.size w w' := by
  unfold maxLen at hm
  obtain ⟨sr, rfl⟩ := Int.eq_ofNat_of_zero_le w0.1
  obtain ⟨ds, rfl⟩ := Int.eq_ofNat_of_zero_le w1.1
  exact tcpParses_core sr ds A n c (min n 1600) (bs.take 1600) w (by omega) (by omega) (by omega) (by omega) (by omega) (fun W => short_any A n c hc (by omega) W) (w2.take 1600) he

end Tc
end Go.Proofs.YthamemjkdjambaaDoor
