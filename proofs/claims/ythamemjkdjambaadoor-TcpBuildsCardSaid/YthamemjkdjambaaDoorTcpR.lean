/- Layer 5: the walk of TcpBuilds. -/
import Derived.Test.YthamemjkdjambaaDoorTcpP
set_option linter.unusedVariables false
set_option linter.unusedSimpArgs false
namespace Go.Proofs.YthamemjkdjambaaDoor
open Go.ChangeShapes Go.WideShapes Go.ChangeAt Go.RowKit Go.Mtl
namespace Tc
open TcpM (saneB psB psN totN psN_le totN_le errT errT_le segB seg ckN row1)
open SumM (add add_le)
open IpM (word word_lt twoB fourB)
open Ip (ret_int MadeO Row But u8_info own_bts own_lit)

set_option maxHeartbeats 2000000 in
theorem tcpBuilds_bad (sr ds fr to f pr : Nat) (A : Option Addr) (n c m : Nat) (bs : List UInt8) (k : Int) (v : Nat) (W : World) (hmc : m ≤ c) (hm : c ≤ 9223372036854775807) (hsr : sr < 4294967296) (hds : ds < 4294967296) (hfr : fr < 65536) (hto : to < 65536) (hf : f < 256) (hpr : pr < 256) (hv : v < 18446744073709551616) (hk : IntKind.u64.wrap k = (v : Int))
    (hsh : ∀ W, Calls Tryd.prog 8 #[.slice A n c] W fun e w' => e = .returned (.slice A m c) ∧ W = w') (hb : Bts W W.heap.size A m bs) (he : Env W) (hx : saneB f = false ∨ 64 ≤ f) :
    Calls Tryd.prog 4 #[.int .u32 (sr : Int), .int .u32 (ds : Int), .int .u16 (fr : Int), .int .u16 (to : Int), .int .u8 (f : Int), .slice A n c, .int .u8 (pr : Int), .int .i64 k] W fun e w' => e = .returned (.bool true) ∧ Below W.heap.size W w' := by
  have H0 := Lib.hid hsh
  have HE := Lib.hid he
  have P1 := Lib.hid (fun W he => build_bad sr ds fr to f A m c f hf rfl W he hx)
  have P2 := Lib.hid (fun W => refBuild_bad sr ds fr to f A m c f hf rfl W hx)
  have hp := psN_le pr sr ds v
  obtain ⟨s, hs⟩ : ∃ s, saneB f = s := ⟨_, rfl⟩
  have S1 := Lib.hid (fun W he => sane_any f hf s hs W he)
  have S2 := Lib.hid (fun W => refSane_any f hf s hs W)
  have Q1 := Lib.hid (fun W => pseudo_any pr sr ds k v hpr hsr hds hv hk W)
  have Q2 := Lib.hid (fun W => refPseudo_any pr sr ds k v hpr hsr hds hv hk W)
  clear hsh hb he hx hk hs
  generalize psN pr sr ds v = q at Q1 Q2 hp
  go_enter Tryd.func4, Tryd.ntmps4
  go_wp2_with (go_at_call 8; refine (H0.out _).mono ?_; rintro e w' ⟨rfl, rfl⟩)
  go_at_call 11
  refine (P1.out _ HE.out).mono ?_
  rintro e w1 ⟨rfl, hb1⟩
  have HE1 := Lib.hid (HE.out.below hb1 (Nat.le_refl _))
  have HB1 := Lib.hid hb1
  clear hb1 HE
  go_wp2_with (go_at_call 8; refine (H0.out _).mono ?_; rintro e w' ⟨rfl, rfl⟩)
  go_at_call 12
  refine (P2.out _).mono ?_
  rintro e w2 ⟨rfl, hb2⟩
  have HE2 := Lib.hid (HE1.out.below hb2 (Nat.le_refl _))
  have HB2 := Lib.hid (HB1.out.trans (hb2.mono HB1.out.size))
  clear hb2 HE1 HB1
  go_wp2_with fail
  go_at_call 10
  refine (awake_any _ HE2.out).mono ?_
  rintro e w3 ⟨rfl, hb3⟩
  have HE3 := Lib.hid (HE2.out.below hb3 (Nat.le_refl _))
  have HB3 := Lib.hid (HB2.out.trans (hb3.mono HB2.out.size))
  have hcv := text_at (c := 0) (Bts.empty w3 0 none) (Below.refl _ _)
  clear hb3 HE2 HB2
  go_wp2_with fail
  go_at_call 13
  refine (S1.out _ HE3.out).mono ?_
  rintro e w4 ⟨rfl, hb4⟩
  have HB4 := Lib.hid (HB3.out.trans (hb4.mono HB3.out.size))
  clear hb4 HE3 HB3
  go_wp2_with fail
  go_at_call 14
  refine (S2.out _).mono ?_
  rintro e w5 ⟨rfl, rfl⟩
  go_wp2_with fail
  go_at_call 15
  refine (Q1.out _).mono ?_
  rintro e w6 ⟨rfl, hb6⟩
  have HB6 := Lib.hid (HB4.out.trans (hb6.mono HB4.out.size))
  clear hb6 HB4
  go_wp2_with fail
  go_at_call 16
  refine (Q2.out _).mono ?_
  rintro e w7 ⟨rfl, hb7⟩
  have HB7 := Lib.hid (HB6.out.trans (hb7.mono HB6.out.size))
  clear hb7 HB6
  go_wp2_with fail
  go_ret
  exact ⟨rfl, HB7.out⟩

set_option maxHeartbeats 2000000 in
theorem tcpBuilds_long (sr ds fr to f pr : Nat) (A : Option Addr) (n c m : Nat) (bs : List UInt8) (k : Int) (v : Nat) (W : World) (hmc : m ≤ c) (hm : c ≤ 9223372036854775807) (hsr : sr < 4294967296) (hds : ds < 4294967296) (hfr : fr < 65536) (hto : to < 65536) (hf : f < 256) (hpr : pr < 256) (hv : v < 18446744073709551616) (hk : IntKind.u64.wrap k = (v : Int))
    (hsh : ∀ W, Calls Tryd.prog 8 #[.slice A n c] W fun e w' => e = .returned (.slice A m c) ∧ W = w') (hb : Bts W W.heap.size A m bs) (he : Env W) (hx : saneB f = true) (hf6 : f < 64) (hl : 1460 < m) :
    Calls Tryd.prog 4 #[.int .u32 (sr : Int), .int .u32 (ds : Int), .int .u16 (fr : Int), .int .u16 (to : Int), .int .u8 (f : Int), .slice A n c, .int .u8 (pr : Int), .int .i64 k] W fun e w' => e = .returned (.bool true) ∧ Below W.heap.size W w' := by
  have H0 := Lib.hid hsh
  have HE := Lib.hid he
  have P1 := Lib.hid (fun W he => build_long sr ds fr to f A m c f hf6 rfl W he hx hmc hm hl)
  have P2 := Lib.hid (fun W => refBuild_long sr ds fr to f A m c f hf6 rfl W hx hmc hm hl)
  have hp := psN_le pr sr ds v
  obtain ⟨s, hs⟩ : ∃ s, saneB f = s := ⟨_, rfl⟩
  have S1 := Lib.hid (fun W he => sane_any f hf s hs W he)
  have S2 := Lib.hid (fun W => refSane_any f hf s hs W)
  have Q1 := Lib.hid (fun W => pseudo_any pr sr ds k v hpr hsr hds hv hk W)
  have Q2 := Lib.hid (fun W => refPseudo_any pr sr ds k v hpr hsr hds hv hk W)
  clear hsh hb he hx hk hs
  generalize psN pr sr ds v = q at Q1 Q2 hp
  go_enter Tryd.func4, Tryd.ntmps4
  go_wp2_with (go_at_call 8; refine (H0.out _).mono ?_; rintro e w' ⟨rfl, rfl⟩)
  go_at_call 11
  refine (P1.out _ HE.out).mono ?_
  rintro e w1 ⟨rfl, hb1⟩
  have HE1 := Lib.hid (HE.out.below hb1 (Nat.le_refl _))
  have HB1 := Lib.hid hb1
  clear hb1 HE
  go_wp2_with (go_at_call 8; refine (H0.out _).mono ?_; rintro e w' ⟨rfl, rfl⟩)
  go_at_call 12
  refine (P2.out _).mono ?_
  rintro e w2 ⟨rfl, hb2⟩
  have HE2 := Lib.hid (HE1.out.below hb2 (Nat.le_refl _))
  have HB2 := Lib.hid (HB1.out.trans (hb2.mono HB1.out.size))
  clear hb2 HE1 HB1
  go_wp2_with fail
  go_at_call 10
  refine (awake_any _ HE2.out).mono ?_
  rintro e w3 ⟨rfl, hb3⟩
  have HE3 := Lib.hid (HE2.out.below hb3 (Nat.le_refl _))
  have HB3 := Lib.hid (HB2.out.trans (hb3.mono HB2.out.size))
  have hcv := text_at (c := 0) (Bts.empty w3 0 none) (Below.refl _ _)
  clear hb3 HE2 HB2
  go_wp2_with fail
  go_at_call 13
  refine (S1.out _ HE3.out).mono ?_
  rintro e w4 ⟨rfl, hb4⟩
  have HB4 := Lib.hid (HB3.out.trans (hb4.mono HB3.out.size))
  clear hb4 HE3 HB3
  go_wp2_with fail
  go_at_call 14
  refine (S2.out _).mono ?_
  rintro e w5 ⟨rfl, rfl⟩
  go_wp2_with fail
  go_at_call 15
  refine (Q1.out _).mono ?_
  rintro e w6 ⟨rfl, hb6⟩
  have HB6 := Lib.hid (HB4.out.trans (hb6.mono HB4.out.size))
  clear hb6 HB4
  go_wp2_with fail
  go_at_call 16
  refine (Q2.out _).mono ?_
  rintro e w7 ⟨rfl, hb7⟩
  have HB7 := Lib.hid (HB6.out.trans (hb7.mono HB6.out.size))
  clear hb7 HB6
  go_wp2_with fail
  go_ret
  exact ⟨rfl, HB7.out⟩

set_option maxHeartbeats 2000000 in
theorem tcpBuilds_ok (sr ds fr to f pr : Nat) (A : Option Addr) (n c m : Nat) (bs : List UInt8) (k : Int) (v : Nat) (W : World) (hmc : m ≤ c) (hm : c ≤ 9223372036854775807) (hsr : sr < 4294967296) (hds : ds < 4294967296) (hfr : fr < 65536) (hto : to < 65536) (hf : f < 256) (hpr : pr < 256) (hv : v < 18446744073709551616) (hk : IntKind.u64.wrap k = (v : Int))
    (hsh : ∀ W, Calls Tryd.prog 8 #[.slice A n c] W fun e w' => e = .returned (.slice A m c) ∧ W = w') (hb : Bts W W.heap.size A m bs) (he : Env W) (hx : saneB f = true) (hf6 : f < 64) (hl : m ≤ 1460) :
    Calls Tryd.prog 4 #[.int .u32 (sr : Int), .int .u32 (ds : Int), .int .u16 (fr : Int), .int .u16 (to : Int), .int .u8 (f : Int), .slice A n c, .int .u8 (pr : Int), .int .i64 k] W fun e w' => e = .returned (.bool true) ∧ Below W.heap.size W w' := by
  have H0 := Lib.hid hsh
  have HE := Lib.hid he
  have HB := Lib.hid hb
  obtain ⟨N, hN⟩ : ∃ N, 20 + bs.length = N := ⟨_, rfl⟩
  have P1 : Hid (∀ W', Bts W' W.heap.size A m bs → W.heap.size ≤ W'.heap.size → Env W' → Calls Tryd.prog 11 #[.int .u32 (sr : Int), .int .u32 (ds : Int), .int .u16 (fr : Int), .int .u16 (to : Int), .int .u8 (f : Int), .slice A m c] W' fun e w' =>
      ∃ g, e = .returned (.tuple #[.slice (some ⟨g, 0, none⟩) N N, .int .i64 0]) ∧ Hid (Row w' g (seg sr ds fr to f bs)) ∧ Below W'.heap.size W' w') := by
    intro W' hb' h he'
    subst hN
    exact (build_ok sr ds fr to f A m c bs W.heap.size W' hb' h hmc hm hl hsr hds hfr hto hf6 hx he').mono fun e w' ⟨g, h1, h2, _, h4⟩ => ⟨g, h1, h2, h4⟩
  have P2 : Hid (∀ W', Bts W' W.heap.size A m bs → W.heap.size ≤ W'.heap.size → Calls Tryd.prog 12 #[.int .u32 (sr : Int), .int .u32 (ds : Int), .int .u16 (fr : Int), .int .u16 (to : Int), .int .u8 (f : Int), .slice A m c] W' fun e w' =>
      ∃ A2 c2, e = .returned (.tuple #[.slice A2 N c2, .int .i64 0]) ∧ Hid (Bts w' w'.heap.size A2 N (seg sr ds fr to f bs)) ∧ Below W'.heap.size W' w') := by
    intro W' hb' h
    subst hN
    exact refBuild_ok sr ds fr to f A m c bs W.heap.size W' hb' h hmc hm hl hsr hds hfr hto hf6 hx
  have hSL : (seg sr ds fr to f bs).length = N := by rw [TcpM.seg_len, hN]
  have HSL := Lib.hid hSL
  generalize seg sr ds fr to f bs = S at P1 P2 HSL
  clear hN hSL
  have hp := psN_le pr sr ds v
  obtain ⟨s, hs⟩ : ∃ s, saneB f = s := ⟨_, rfl⟩
  have S1 := Lib.hid (fun W he => sane_any f hf s hs W he)
  have S2 := Lib.hid (fun W => refSane_any f hf s hs W)
  have Q1 := Lib.hid (fun W => pseudo_any pr sr ds k v hpr hsr hds hv hk W)
  have Q2 := Lib.hid (fun W => refPseudo_any pr sr ds k v hpr hsr hds hv hk W)
  clear hsh hb he hx hk hs
  generalize psN pr sr ds v = q at Q1 Q2 hp
  go_enter Tryd.func4, Tryd.ntmps4
  go_wp2_with (go_at_call 8; refine (H0.out _).mono ?_; rintro e w' ⟨rfl, rfl⟩)
  go_at_call 11
  refine (P1.out _ HB.out (Nat.le_refl _) HE.out).mono ?_
  rintro e w1 ⟨g, rfl, HR1, hb1⟩
  have ht1 := HR1.out.bts
  rw [HSL.out] at ht1
  have HT1 := Lib.hid ht1
  clear ht1 HR1
  have HE1 := Lib.hid (HE.out.below hb1 (Nat.le_refl _))
  have HB1 := Lib.hid hb1
  clear hb1 HE
  go_wp2_with (go_at_call 8; refine (H0.out _).mono ?_; rintro e w' ⟨rfl, rfl⟩)
  go_at_call 12
  refine (P2.out _ (HB.out.below HB1.out) HB1.out.size).mono ?_
  rintro e w2 ⟨A2, c2, rfl, HT2, hb2⟩
  have HT1 := Lib.hid (HT1.out.below hb2)
  have hs2 := hb2.size
  have HE2 := Lib.hid (HE1.out.below hb2 (Nat.le_refl _))
  have HB2 := Lib.hid (HB1.out.trans (hb2.mono HB1.out.size))
  clear hb2 HE1 HB1
  go_wp2_with fail
  go_at_call 10
  refine (awake_any _ HE2.out).mono ?_
  rintro e w3 ⟨rfl, hb3⟩
  have HE3 := Lib.hid (HE2.out.below hb3 (Nat.le_refl _))
  have HB3 := Lib.hid (HB2.out.trans (hb3.mono HB2.out.size))
  have hcv := text_at (c := N) HT1.out (hb3.mono hs2)
  have hcv2 := text_at (c := c2) HT2.out hb3
  clear hb3 HE2 HB2
  go_wp2_with fail
  go_at_call 13
  refine (S1.out _ HE3.out).mono ?_
  rintro e w4 ⟨rfl, hb4⟩
  have HB4 := Lib.hid (HB3.out.trans (hb4.mono HB3.out.size))
  clear hb4 HE3 HB3
  go_wp2_with fail
  go_at_call 14
  refine (S2.out _).mono ?_
  rintro e w5 ⟨rfl, rfl⟩
  go_wp2_with fail
  go_at_call 15
  refine (Q1.out _).mono ?_
  rintro e w6 ⟨rfl, hb6⟩
  have HB6 := Lib.hid (HB4.out.trans (hb6.mono HB4.out.size))
  clear hb6 HB4
  go_wp2_with fail
  go_at_call 16
  refine (Q2.out _).mono ?_
  rintro e w7 ⟨rfl, hb7⟩
  have HB7 := Lib.hid (HB6.out.trans (hb7.mono HB6.out.size))
  clear hb7 HB6
  go_wp2_with fail
  go_ret
  exact ⟨rfl, HB7.out⟩

theorem tcpBuilds_walk (a0 a1 a2 a3 a4 : Int) (A : Option Addr) (n c : Nat) (bs : List UInt8) (a6 a7 : Int) (w : World) (he : Env w) (w0 : 0 ≤ a0 ∧ a0 ≤ 4294967295) (w1 : 0 ≤ a1 ∧ a1 ≤ 4294967295) (w2 : 0 ≤ a2 ∧ a2 ≤ 65535) (w3 : 0 ≤ a3 ∧ a3 ≤ 65535) (w4 : 0 ≤ a4 ∧ a4 ≤ 255)
    (w5 : Bts w w.heap.size A n bs) (hc : n ≤ c) (hm : c ≤ maxLen) (w6 : 0 ≤ a6 ∧ a6 ≤ 255) (w7 : -9223372036854775808 ≤ a7 ∧ a7 ≤ 9223372036854775807) :
    Calls Tryd.prog 4 #[.int .u32 a0, .int .u32 a1, .int .u16 a2, .int .u16 a3, .int .u8 a4, .slice A n c, .int .u8 a6, .int .i64 a7] w fun e w' => e = .returned (.bool true) ∧ Below w.heap.size w w' := by
  unfold maxLen at hm
  obtain ⟨sr, rfl⟩ := Int.eq_ofNat_of_zero_le w0.1
  obtain ⟨ds, rfl⟩ := Int.eq_ofNat_of_zero_le w1.1
  obtain ⟨fr, rfl⟩ := Int.eq_ofNat_of_zero_le w2.1
  obtain ⟨to, rfl⟩ := Int.eq_ofNat_of_zero_le w3.1
  obtain ⟨f, rfl⟩ := Int.eq_ofNat_of_zero_le w4.1
  obtain ⟨pr, rfl⟩ := Int.eq_ofNat_of_zero_le w6.1
  obtain ⟨v, hv, hv2⟩ : ∃ v : Nat, IntKind.u64.wrap a7 = (v : Int) ∧ v < 18446744073709551616 := by
    have e : IntKind.u64.wrap a7 = a7 % 18446744073709551616 := by simp [IntKind.wrap, IntKind.bits, IntKind.signed]
    exact ⟨(a7 % 18446744073709551616).toNat, by rw [e]; omega, by omega⟩
  have hsh := fun W => short_any A n c hc (by omega) W
  have hb := w5.take 1600
  by_cases h : saneB f = false ∨ 64 ≤ f
  · exact tcpBuilds_bad sr ds fr to f pr A n c (min n 1600) (bs.take 1600) a7 v w (by omega) (by omega) (by omega) (by omega) (by omega) (by omega) (by omega) (by omega) hv2 hv hsh hb he h
  · have hx : saneB f = true := by cases hs : saneB f <;> simp_all
    have hf6 : f < 64 := by omega
    by_cases hl : 1460 < min n 1600
    · exact tcpBuilds_long sr ds fr to f pr A n c (min n 1600) (bs.take 1600) a7 v w (by omega) (by omega) (by omega) (by omega) (by omega) (by omega) (by omega) (by omega) hv2 hv hsh hb he hx hf6 hl
    · exact tcpBuilds_ok sr ds fr to f pr A n c (min n 1600) (bs.take 1600) a7 v w (by omega) (by omega) (by omega) (by omega) (by omega) (by omega) (by omega) (by omega) hv2 hv hsh hb he hx hf6 (by omega)

end Tc
end Go.Proofs.YthamemjkdjambaaDoor
