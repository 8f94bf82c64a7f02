/- Layer 6: the walks of UdpParses and UdpBuilds. -/
import Derived.Test.YtpdjdaifoopkcaaUdpP
set_option linter.unusedVariables false
set_option linter.unusedSimpArgs false
namespace Go.Proofs.Ytpdjdaifoopkcaa
open Go.ChangeShapes Go.WideShapes Go.ChangeAt Go.RowKit Go.Mtl
namespace Ud
open TcpM (psB psN psN_le)
open UdpM (totU totU_le errU errU_le datB dat ckU ckU_le fullN)
open SumM (add add_le turn)
open IpM (word word_lt twoB fourB)
open Ip (ret_int MadeO Row But u8_info own_bts own_lit row_of_own)

set_option maxHeartbeats 2000000 in
theorem udpParses_core (sr ds : Nat) (A : Option Addr) (n c m : Nat) (bs : List UInt8) (W : World) (hmc : m ≤ c) (hm : c ≤ 9223372036854775807) (hm6 : m ≤ 1600) (hsr : sr < 4294967296) (hds : ds < 4294967296)
    (hsh : ∀ W, Calls Try.prog 8 #[.slice A n c] W fun e w' => e = .returned (.slice A m c) ∧ W = w') (hb : Bts W W.heap.size A m bs) :
    Calls Try.prog 3 #[.int .u32 (sr : Int), .int .u32 (ds : Int), .slice A n c] W fun e w' => e = .returned (.bool true) ∧ Below W.heap.size W w' := by
  have H0 := Lib.hid hsh
  have HB := Lib.hid hb
  have P1 := Lib.hid (fun W' (hb : Bts W' W.heap.size A m bs) h => parse_any sr ds A m c bs W.heap.size W' hb h hmc hm hsr hds)
  have P2 := Lib.hid (fun W' (hb : Bts W' W.heap.size A m bs) h => refParse_any sr ds A m c bs W.heap.size W' hb h hmc hm (by omega) hsr hds)
  have hel := errU_le sr ds bs
  have w0 := word_lt bs 0
  have w2 := word_lt bs 2
  clear hsh hb
  generalize errU sr ds bs = er at P1 P2 hel
  by_cases h0 : er = 0
  · rw [pV_ok bs h0] at P1 P2
    clear h0
    go_enter Try.func3, Try.ntmps3
    go_wp2_with (go_at_call 8; refine (H0.out _).mono ?_; rintro e w' ⟨rfl, rfl⟩)
    go_at_call 7
    refine (P1.out _ HB.out (Nat.le_refl _)).mono ?_
    rintro e w1 ⟨rfl, hb1⟩
    have HB1 := Lib.hid hb1
    clear hb1
    go_wp2_with (go_at_call 8; refine (H0.out _).mono ?_; rintro e w' ⟨rfl, rfl⟩)
    go_at_call 9
    refine (P2.out _ (HB.out.below HB1.out) HB1.out.size).mono ?_
    rintro e w2 ⟨rfl, hb2⟩
    have HB2 := Lib.hid (HB1.out.trans (hb2.mono HB1.out.size))
    clear hb2 HB1
    go_wp2_with fail
    go_at_call 10
    refine (awake_any _).mono ?_
    rintro e w3 ⟨rfl, hb3⟩
    have HB3 := Lib.hid (HB2.out.trans (hb3.mono HB2.out.size))
    clear hb3 HB2
    go_wp2_with fail
    go_ret
    exact ⟨rfl, HB3.out⟩
  · rw [pV_bad bs h0] at P1 P2
    clear h0
    go_enter Try.func3, Try.ntmps3
    go_wp2_with (go_at_call 8; refine (H0.out _).mono ?_; rintro e w' ⟨rfl, rfl⟩)
    go_at_call 7
    refine (P1.out _ HB.out (Nat.le_refl _)).mono ?_
    rintro e w1 ⟨rfl, hb1⟩
    have HB1 := Lib.hid hb1
    clear hb1
    go_wp2_with (go_at_call 8; refine (H0.out _).mono ?_; rintro e w' ⟨rfl, rfl⟩)
    go_at_call 9
    refine (P2.out _ (HB.out.below HB1.out) HB1.out.size).mono ?_
    rintro e w2 ⟨rfl, hb2⟩
    have HB2 := Lib.hid (HB1.out.trans (hb2.mono HB1.out.size))
    clear hb2 HB1
    go_wp2_with fail
    go_at_call 10
    refine (awake_any _).mono ?_
    rintro e w3 ⟨rfl, hb3⟩
    have HB3 := Lib.hid (HB2.out.trans (hb3.mono HB2.out.size))
    clear hb3 HB2
    go_wp2_with fail
    go_ret
    exact ⟨rfl, HB3.out⟩

theorem udpParses_walk (a0 a1 : Int) (A : Option Addr) (n c : Nat) (bs : List UInt8) (w : World) (w0 : 0 ≤ a0 ∧ a0 ≤ 4294967295) (w1 : 0 ≤ a1 ∧ a1 ≤ 4294967295) (w2 : Bts w w.heap.size A n bs) (hc : n ≤ c) (hm : c ≤ maxLen) :
    Calls Try.prog 3 #[.int .u32 a0, .int .u32 a1, .slice A n c] w fun e w' => e = .returned (.bool true) ∧ Below w.heap.size w w' := by
  unfold maxLen at hm
  obtain ⟨sr, rfl⟩ := Int.eq_ofNat_of_zero_le w0.1
  obtain ⟨ds, rfl⟩ := Int.eq_ofNat_of_zero_le w1.1
  exact udpParses_core sr ds A n c (min n 1600) (bs.take 1600) w (by omega) (by omega) (by omega) (by omega) (by omega) (fun W => short_any A n c hc (by omega) W) (w2.take 1600)

set_option maxHeartbeats 2000000 in
theorem udpBuilds_long (sr ds fr to : Nat) (A : Option Addr) (n c m : Nat) (bs : List UInt8) (W : World) (hmc : m ≤ c) (hm : c ≤ 9223372036854775807) (hsr : sr < 4294967296) (hds : ds < 4294967296) (hfr : fr < 65536) (hto : to < 65536)
    (hsh : ∀ W, Calls Try.prog 8 #[.slice A n c] W fun e w' => e = .returned (.slice A m c) ∧ W = w') (hb : Bts W W.heap.size A m bs) (hl : 1472 < m) :
    Calls Try.prog 4 #[.int .u32 (sr : Int), .int .u32 (ds : Int), .int .u16 (fr : Int), .int .u16 (to : Int), .slice A n c] W fun e w' => e = .returned (.bool true) ∧ Below W.heap.size W w' := by
  have H0 := Lib.hid hsh
  have P1 := Lib.hid (fun W => build_long sr ds fr to A m c W hmc hm hl)
  have P2 := Lib.hid (fun W => refBuild_long sr ds fr to A m c W hmc hm hl)
  clear hsh hb
  go_enter Try.func4, Try.ntmps4
  go_wp2_with (go_at_call 8; refine (H0.out _).mono ?_; rintro e w' ⟨rfl, rfl⟩)
  go_at_call 11
  refine (P1.out _).mono ?_
  rintro e w1 ⟨rfl, hb1⟩
  have HB1 := Lib.hid hb1
  clear hb1
  go_wp2_with (go_at_call 8; refine (H0.out _).mono ?_; rintro e w' ⟨rfl, rfl⟩)
  go_at_call 12
  refine (P2.out _).mono ?_
  rintro e w2 ⟨rfl, hb2⟩
  have HB2 := Lib.hid (HB1.out.trans (hb2.mono HB1.out.size))
  clear hb2 HB1
  go_wp2_with fail
  go_at_call 10
  refine (awake_any _).mono ?_
  rintro e w3 ⟨rfl, hb3⟩
  have HB3 := Lib.hid (HB2.out.trans (hb3.mono HB2.out.size))
  have hcv := text_at (c := 0) (Bts.empty w3 0 none) (Below.refl _ _)
  clear hb3 HB2
  go_wp2_with fail
  go_ret
  exact ⟨rfl, HB3.out⟩

set_option maxHeartbeats 2000000 in
theorem udpBuilds_ok (sr ds fr to : Nat) (A : Option Addr) (n c m : Nat) (bs : List UInt8) (W : World) (hmc : m ≤ c) (hm : c ≤ 9223372036854775807) (hsr : sr < 4294967296) (hds : ds < 4294967296) (hfr : fr < 65536) (hto : to < 65536)
    (hsh : ∀ W, Calls Try.prog 8 #[.slice A n c] W fun e w' => e = .returned (.slice A m c) ∧ W = w') (hb : Bts W W.heap.size A m bs) (hl : m ≤ 1472) :
    Calls Try.prog 4 #[.int .u32 (sr : Int), .int .u32 (ds : Int), .int .u16 (fr : Int), .int .u16 (to : Int), .slice A n c] W fun e w' => e = .returned (.bool true) ∧ Below W.heap.size W w' := by
  have H0 := Lib.hid hsh
  have HB := Lib.hid hb
  obtain ⟨N, hN⟩ : ∃ N, 8 + bs.length = N := ⟨_, rfl⟩
  have P1 : Hid (∀ W', Bts W' W.heap.size A m bs → W.heap.size ≤ W'.heap.size → Calls Try.prog 11 #[.int .u32 (sr : Int), .int .u32 (ds : Int), .int .u16 (fr : Int), .int .u16 (to : Int), .slice A m c] W' fun e w' =>
      ∃ g, e = .returned (.tuple #[.slice (some ⟨g, 0, none⟩) N N, .int .i64 0]) ∧ Hid (Row w' g (dat sr ds fr to bs)) ∧ Below W'.heap.size W' w') := by
    intro W' hb' h
    subst hN
    exact (build_ok sr ds fr to A m c bs W.heap.size W' hb' h hmc hm hl hsr hds hfr hto).mono fun e w' ⟨g, h1, h2, _, h4⟩ => ⟨g, h1, h2, h4⟩
  have P2 : Hid (∀ W', Bts W' W.heap.size A m bs → W.heap.size ≤ W'.heap.size → Calls Try.prog 12 #[.int .u32 (sr : Int), .int .u32 (ds : Int), .int .u16 (fr : Int), .int .u16 (to : Int), .slice A m c] W' fun e w' =>
      ∃ A2 c2, e = .returned (.tuple #[.slice A2 N c2, .int .i64 0]) ∧ Hid (Bts w' w'.heap.size A2 N (dat sr ds fr to bs)) ∧ Below W'.heap.size W' w') := by
    intro W' hb' h
    subst hN
    exact refBuild_ok sr ds fr to A m c bs W.heap.size W' hb' h hmc hm hl hsr hds hfr hto
  have hSL : (dat sr ds fr to bs).length = N := by rw [UdpM.dat_len, hN]
  have HSL := Lib.hid hSL
  generalize dat sr ds fr to bs = S at P1 P2 HSL
  clear hN hSL hsh hb
  go_enter Try.func4, Try.ntmps4
  go_wp2_with (go_at_call 8; refine (H0.out _).mono ?_; rintro e w' ⟨rfl, rfl⟩)
  go_at_call 11
  refine (P1.out _ HB.out (Nat.le_refl _)).mono ?_
  rintro e w1 ⟨g, rfl, HR1, hb1⟩
  have ht1 := HR1.out.bts
  rw [HSL.out] at ht1
  have HT1 := Lib.hid ht1
  have HB1 := Lib.hid hb1
  clear ht1 HR1 hb1
  go_wp2_with (go_at_call 8; refine (H0.out _).mono ?_; rintro e w' ⟨rfl, rfl⟩)
  go_at_call 12
  refine (P2.out _ (HB.out.below HB1.out) HB1.out.size).mono ?_
  rintro e w2 ⟨A2, c2, rfl, HT2, hb2⟩
  have HT1 := Lib.hid (HT1.out.below hb2)
  have hs2 := hb2.size
  have HB2 := Lib.hid (HB1.out.trans (hb2.mono HB1.out.size))
  clear hb2 HB1
  go_wp2_with fail
  go_at_call 10
  refine (awake_any _).mono ?_
  rintro e w3 ⟨rfl, hb3⟩
  have HB3 := Lib.hid (HB2.out.trans (hb3.mono HB2.out.size))
  have hcv := text_at (c := N) HT1.out (hb3.mono hs2)
  have hcv2 := text_at (c := c2) HT2.out hb3
  clear hb3 HB2
  go_wp2_with fail
  go_ret
  exact ⟨rfl, HB3.out⟩

theorem udpBuilds_walk (a0 a1 a2 a3 : Int) (A : Option Addr) (n c : Nat) (bs : List UInt8) (w : World) (w0 : 0 ≤ a0 ∧ a0 ≤ 4294967295) (w1 : 0 ≤ a1 ∧ a1 ≤ 4294967295) (w2 : 0 ≤ a2 ∧ a2 ≤ 65535) (w3 : 0 ≤ a3 ∧ a3 ≤ 65535) (w4 : Bts w w.heap.size A n bs) (hc : n ≤ c) (hm : c ≤ maxLen) :
    Calls Try.prog 4 #[.int .u32 a0, .int .u32 a1, .int .u16 a2, .int .u16 a3, .slice A n c] w fun e w' => e = .returned (.bool true) ∧ Below w.heap.size w w' := by
  unfold maxLen at hm
  obtain ⟨sr, rfl⟩ := Int.eq_ofNat_of_zero_le w0.1
  obtain ⟨ds, rfl⟩ := Int.eq_ofNat_of_zero_le w1.1
  obtain ⟨fr, rfl⟩ := Int.eq_ofNat_of_zero_le w2.1
  obtain ⟨to, rfl⟩ := Int.eq_ofNat_of_zero_le w3.1
  by_cases hl : 1472 < min n 1600
  · exact udpBuilds_long sr ds fr to A n c (min n 1600) (bs.take 1600) w (by omega) (by omega) (by omega) (by omega) (by omega) (by omega) (fun W => short_any A n c hc (by omega) W) (w4.take 1600) hl
  · exact udpBuilds_ok sr ds fr to A n c (min n 1600) (bs.take 1600) w (by omega) (by omega) (by omega) (by omega) (by omega) (by omega) (fun W => short_any A n c hc (by omega) W) (w4.take 1600) (by omega)

end Ud
end Go.Proofs.Ytpdjdaifoopkcaa
