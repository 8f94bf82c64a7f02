/- Layer 7: the walks of IcmpParses and IcmpBuilds. -/
import Derived.Test.YtpdmljpodfgdcaaIcmpP
set_option linter.unusedVariables false
set_option linter.unusedSimpArgs false
namespace Go.Proofs.Ytpdmljpodfgdcaa
open Go.ChangeShapes Go.WideShapes Go.ChangeAt Go.RowKit Go.Mtl
namespace Ic
open IcM (echoB echo_yes echo_no errI errI_le msgB msg ckI ckI_le)
open SumM (add add_le turn)
open IpM (word word_lt twoB)
open Ip (ret_int MadeO Row But u8_info own_bts own_lit row_of_own)

set_option maxHeartbeats 2000000 in
theorem icmpParses_core (A : Option Addr) (n c m : Nat) (bs : List UInt8) (W : World) (hmc : m ≤ c) (hm : c ≤ 9223372036854775807) (hm6 : m ≤ 1600)
    (hsh : ∀ W, Calls Try.prog 7 #[.slice A n c] W fun e w' => e = .returned (.slice A m c) ∧ W = w') (hb : Bts W W.heap.size A m bs) :
    Calls Try.prog 3 #[.slice A n c] W fun e w' => e = .returned (.bool true) ∧ Below W.heap.size W w' := by
  have H0 := Lib.hid hsh
  have HB := Lib.hid hb
  have P1 := Lib.hid (fun W' (hb : Bts W' W.heap.size A m bs) h => parse_any A m c bs W.heap.size W' hb h hmc hm)
  have P2 := Lib.hid (fun W' (hb : Bts W' W.heap.size A m bs) h => refParse_any A m c bs W.heap.size W' hb h hmc hm (by omega))
  have hel := errI_le bs
  have y0 := byt_lt bs 0
  have w4 := word_lt bs 4
  clear hsh hb
  generalize errI bs = er at P1 P2 hel
  have hv : pV er bs = okV bs ∨ pV er bs = badV er := by unfold pV; split <;> simp
  rcases hv with h0 | h0
  all_goals
    rw [h0] at P1 P2
    clear h0
    go_enter Try.func3, Try.ntmps3
    go_wp2_with (go_at_call 7; refine (H0.out _).mono ?_; rintro e w' ⟨rfl, rfl⟩)
    go_at_call 6
    refine (P1.out _ HB.out (Nat.le_refl _)).mono ?_
    rintro e w1 ⟨rfl, hb1⟩
    have HB1 := Lib.hid hb1
    clear hb1
    go_wp2_with (go_at_call 7; refine (H0.out _).mono ?_; rintro e w' ⟨rfl, rfl⟩)
    go_at_call 8
    refine (P2.out _ (HB.out.below HB1.out) HB1.out.size).mono ?_
    rintro e w2 ⟨rfl, hb2⟩
    have HB2 := Lib.hid (HB1.out.trans (hb2.mono HB1.out.size))
    clear hb2 HB1
    go_wp2_with fail
    go_at_call 9
    refine (awake_any _).mono ?_
    rintro e w3 ⟨rfl, hb3⟩
    have HB3 := Lib.hid (HB2.out.trans (hb3.mono HB2.out.size))
    clear hb3 HB2
    go_wp2_with fail
    go_ret
    exact ⟨rfl, HB3.out⟩

theorem icmpParses_walk (A : Option Addr) (n c : Nat) (bs : List UInt8) (w : World) (w2 : Bts w w.heap.size A n bs) (hc : n ≤ c) (hm : c ≤ maxLen) :
    Calls Try.prog 3 #[.slice A n c] w fun e w' => e = .returned (.bool true) ∧ Below w.heap.size w w' := by
  unfold maxLen at hm
  exact icmpParses_core A n c (min n 1600) (bs.take 1600) w (by omega) (by omega) (by omega) (fun W => short_any A n c hc (by omega) W) (w2.take 1600)

set_option maxHeartbeats 2000000 in
theorem icmpBuilds_no (kd id er : Nat) (A : Option Addr) (n c m : Nat) (W : World)
    (hsh : ∀ W, Calls Try.prog 7 #[.slice A n c] W fun e w' => e = .returned (.slice A m c) ∧ W = w')
    (h1 : ∀ W, Calls Try.prog 10 #[.int .u8 (kd : Int), .int .u16 (id : Int), .slice A m c] W fun e w' => e = .returned (.tuple #[.slice none 0 0, .int .i64 (er : Int)]) ∧ Below W.heap.size W w')
    (h2 : ∀ W, Calls Try.prog 11 #[.int .u8 (kd : Int), .int .u16 (id : Int), .slice A m c] W fun e w' => e = .returned (.tuple #[.slice none 0 0, .int .i64 (er : Int)]) ∧ Below W.heap.size W w') :
    Calls Try.prog 4 #[.int .u8 (kd : Int), .int .u16 (id : Int), .slice A n c] W fun e w' => e = .returned (.bool true) ∧ Below W.heap.size W w' := by
  have H0 := Lib.hid hsh
  have P1 := Lib.hid h1
  have P2 := Lib.hid h2
  clear hsh h1 h2
  go_enter Try.func4, Try.ntmps4
  go_wp2_with (go_at_call 7; refine (H0.out _).mono ?_; rintro e w' ⟨rfl, rfl⟩)
  go_at_call 10
  refine (P1.out _).mono ?_
  rintro e w1 ⟨rfl, hb1⟩
  have HB1 := Lib.hid hb1
  clear hb1
  go_wp2_with (go_at_call 7; refine (H0.out _).mono ?_; rintro e w' ⟨rfl, rfl⟩)
  go_at_call 11
  refine (P2.out _).mono ?_
  rintro e w2 ⟨rfl, hb2⟩
  have HB2 := Lib.hid (HB1.out.trans (hb2.mono HB1.out.size))
  clear hb2 HB1
  go_wp2_with fail
  go_at_call 9
  refine (awake_any _).mono ?_
  rintro e w3 ⟨rfl, hb3⟩
  have HB3 := Lib.hid (HB2.out.trans (hb3.mono HB2.out.size))
  have hcv := text_at (c := 0) (Bts.empty w3 0 none) (Below.refl _ _)
  clear hb3 HB2
  go_wp2_with fail
  go_ret
  exact ⟨rfl, HB3.out⟩

set_option maxHeartbeats 2000000 in
theorem icmpBuilds_ok (kd id : Nat) (A : Option Addr) (n c m : Nat) (bs : List UInt8) (W : World) (hmc : m ≤ c) (hm : c ≤ 9223372036854775807) (h : echoB kd = true) (hk : kd < 256) (hid : id < 65536)
    (hsh : ∀ W, Calls Try.prog 7 #[.slice A n c] W fun e w' => e = .returned (.slice A m c) ∧ W = w') (hb : Bts W W.heap.size A m bs) (hl : m ≤ 1472) :
    Calls Try.prog 4 #[.int .u8 (kd : Int), .int .u16 (id : Int), .slice A n c] W fun e w' => e = .returned (.bool true) ∧ Below W.heap.size W w' := by
  have H0 := Lib.hid hsh
  have HB := Lib.hid hb
  obtain ⟨N, hN⟩ : ∃ N, 8 + bs.length = N := ⟨_, rfl⟩
  have P1 : Hid (∀ W', Bts W' W.heap.size A m bs → W.heap.size ≤ W'.heap.size → Calls Try.prog 10 #[.int .u8 (kd : Int), .int .u16 (id : Int), .slice A m c] W' fun e w' =>
      ∃ g, e = .returned (.tuple #[.slice (some ⟨g, 0, none⟩) N N, .int .i64 0]) ∧ Hid (Row w' g (msg kd id bs)) ∧ Below W'.heap.size W' w') := by
    intro W' hb' h'
    subst hN
    exact (build_ok kd id A m c bs W.heap.size W' h hb' h' hmc hm hl hk hid).mono fun e w' ⟨g, h1, h2, _, h4⟩ => ⟨g, h1, h2, h4⟩
  have P2 : Hid (∀ W', Bts W' W.heap.size A m bs → W.heap.size ≤ W'.heap.size → Calls Try.prog 11 #[.int .u8 (kd : Int), .int .u16 (id : Int), .slice A m c] W' fun e w' =>
      ∃ A2 c2, e = .returned (.tuple #[.slice A2 N c2, .int .i64 0]) ∧ Hid (Bts w' w'.heap.size A2 N (msg kd id bs)) ∧ Below W'.heap.size W' w') := by
    intro W' hb' h'
    subst hN
    exact refBuild_ok kd id A m c bs W.heap.size W' h hb' h' hmc hm hl hid
  have hSL : (msg kd id bs).length = N := by rw [IcM.msg_len, hN]
  have HSL := Lib.hid hSL
  generalize msg kd id bs = S at P1 P2 HSL
  clear hN hSL hsh hb h
  go_enter Try.func4, Try.ntmps4
  go_wp2_with (go_at_call 7; refine (H0.out _).mono ?_; rintro e w' ⟨rfl, rfl⟩)
  go_at_call 10
  refine (P1.out _ HB.out (Nat.le_refl _)).mono ?_
  rintro e w1 ⟨g, rfl, HR1, hb1⟩
  have ht1 := HR1.out.bts
  rw [HSL.out] at ht1
  have HT1 := Lib.hid ht1
  have HB1 := Lib.hid hb1
  clear ht1 HR1 hb1
  go_wp2_with (go_at_call 7; refine (H0.out _).mono ?_; rintro e w' ⟨rfl, rfl⟩)
  go_at_call 11
  refine (P2.out _ (HB.out.below HB1.out) HB1.out.size).mono ?_
  rintro e w2 ⟨A2, c2, rfl, HT2, hb2⟩
  have HT1 := Lib.hid (HT1.out.below hb2)
  have hs2 := hb2.size
  have HB2 := Lib.hid (HB1.out.trans (hb2.mono HB1.out.size))
  clear hb2 HB1
  go_wp2_with fail
  go_at_call 9
  refine (awake_any _).mono ?_
  rintro e w3 ⟨rfl, hb3⟩
  have HB3 := Lib.hid (HB2.out.trans (hb3.mono HB2.out.size))
  have hcv := text_at (c := N) HT1.out (hb3.mono hs2)
  have hcv2 := text_at (c := c2) HT2.out hb3
  clear hb3 HB2
  go_wp2_with fail
  go_ret
  exact ⟨rfl, HB3.out⟩

theorem icmpBuilds_walk (a0 a1 : Int) (A : Option Addr) (n c : Nat) (bs : List UInt8) (w : World) (w0 : 0 ≤ a0 ∧ a0 ≤ 255) (w1 : 0 ≤ a1 ∧ a1 ≤ 65535) (w4 : Bts w w.heap.size A n bs) (hc : n ≤ c) (hm : c ≤ maxLen) :
    Calls Try.prog 4 #[.int .u8 a0, .int .u16 a1, .slice A n c] w fun e w' => e = .returned (.bool true) ∧ Below w.heap.size w w' := by
  unfold maxLen at hm
  obtain ⟨kd, rfl⟩ := Int.eq_ofNat_of_zero_le w0.1
  obtain ⟨id, rfl⟩ := Int.eq_ofNat_of_zero_le w1.1
  cases h : echoB kd
  · exact icmpBuilds_no kd id 10 A n c (min n 1600) w (fun W => short_any A n c hc (by omega) W) (fun W => build_bad kd id A _ c W h) (fun W => refBuild_bad kd id A _ c W h)
  · by_cases hl : 1472 < min n 1600
    · exact icmpBuilds_no kd id 2 A n c (min n 1600) w (fun W => short_any A n c hc (by omega) W) (fun W => build_long kd id A _ c W h (by omega) (by omega) hl) (fun W => refBuild_long kd id A _ c W h (by omega) (by omega) hl)
    · exact icmpBuilds_ok kd id A n c (min n 1600) (bs.take 1600) w (by omega) (by omega) h (by omega) (by omega) (fun W => short_any A n c hc (by omega) W) (w4.take 1600) (by omega)

end Ic
end Go.Proofs.Ytpdmljpodfgdcaa
